/-
  Contract: octal.Format.
-/
import Derived.Test.YtnmmaedngdibeaaGreatDoorHFits
import Derived.Test.YtnmmaedngdibeaaGreatDoorHBits
import Derived.Test.YtnmmaedngdibeaaGreatDoorHOct
namespace Go.Proofs.YtnmmaedngdibeaaGreatDoor.H
open Go.RowKit

theorem info5a : (Tryz.prog.info? 5).map (fun i => (i.size, i.bytes)) = some (1, 1) := by kernel_rfl
theorem info5b : (Tryz.prog.info? 5).bind (fun i => i.zero) = some (.int .u8 0) := by kernel_rfl
theorem info5 : ∃ i, Tryz.prog.info? 5 = some i ∧ i.size = 1 ∧ i.bytes = 1 ∧ i.zero = some (.int .u8 0) := by
  have a := info5a
  have b := info5b
  cases h : Tryz.prog.info? 5 with
  | none => rw [h] at a; simp at a
  | some i => rw [h] at a b; simp at a b; exact ⟨i, rfl, a.1, a.2, b⟩

theorem make22 (k : Nat) (hk : k ≤ 24) (w : World) : (Instr.makeSlice 22 (.int .i64 k) (.int .i64 k)).run Tryz.prog w = .ok (.slice (some ⟨w.heap.size, 0, none⟩) k k) (w.alloc (.cells (row (List.replicate k 0)) 5)) := by
  obtain ⟨i, hi, hs, hb, hz⟩ := info5
  have h := run_make (P := Tryz.prog) w 22 5 i _ Tryz.underlying22 hi hz .i64 .i64 k k (by omega) (by omega) (by rw [hb]; omega) (by omega)
  rw [h, hs, Int.toNat_natCast, Nat.mul_one]
  exact congrArg (fun c => Result.ok _ (w.alloc (.cells c 5))) (made_row k)

set_option maxHeartbeats 1000000 in
theorem format_yes (n : Int) (k : Nat) (w : World) (h0 : 0 ≤ n) (h1 : n ≤ 9223372036854775807) (hk0 : 2 ≤ k) (hk1 : k ≤ 24) (hf : fitsB n k = true) :
    Calls Tryz.prog 33 #[.int .i64 n, .int .i64 k] w fun e w' => e = .returned (.tuple #[.slice (some ⟨w.heap.size, 0, none⟩) k k, .int .i64 0]) ∧ w' = w.alloc (.cells (row (octs n (k - 1) ++ [0])) 5) := by
  have hmk := make22 k hk1
  go_enter Tryz.func33, Tryz.ntmps33
  go_wp2_with (go_at_call 50; refine (fits_w _ _ _ (by omega) (by omega)).mono ?_; rintro e w' ⟨rfl, rfl⟩)
  go_loopw [0, 7] (fun tn ti wr => ∃ (m : Nat) (x : Int) (t : List Int), m ≤ k - 1 ∧ 0 ≤ x ∧ x ≤ 9223372036854775807 ∧ ti = .int .i64 ((m : Int) - 1) ∧ tn = .int .i64 x ∧ t.length = k - m ∧ Hid (octs x m ++ t = octs n (k - 1) ++ [0]) ∧ wr = w.alloc (.cells (row (List.replicate m 0 ++ t)) 5))
    (fun _ i _ => (intOf i + 1).toNat)
  case atStart =>
    refine ⟨k - 1, n, [0], Nat.le_refl _, h0, h1, by go_num, rfl, by simp; omega, by simp [Hid], ?_⟩
    rw [show List.replicate k (0 : Int) = List.replicate (k - 1) 0 ++ [0] by rw [← List.replicate_succ']; congr 1; omega]
  case round =>
    obtain ⟨m, x, t, hm, hx0, hx1, rfl, rfl, ht, H, rfl⟩ := hrel
    cases m with
    | zero =>
      go_wp2
      go_ret2
      refine ⟨rfl, ?_⟩
      have := H.out
      simp only [octs, List.nil_append] at this
      simp [this]
    | succ j =>
      have e1 : ((j + 1 : Nat) : Int) - 1 = j := by omega
      rw [e1]
      have hcj := row_get (List.replicate (j + 1) 0 ++ t) j (by simp; omega)
      have h7 := and7 x
      have hst := row_set (List.replicate (j + 1) 0 ++ t) j (48 + x % 8)
      rw [rep_set] at hst
      go_wp2
      go_roundw
      case rel => exact ⟨j, x / 8, (48 + x % 8) :: t, by omega, by omega, by omega, rfl, rfl, by simp; omega, by rw [← H.out]; simp [octs, Hid], rfl⟩
      case measure => simp [intOf]

theorem format_wide (n v : Int) (w : World) (h : v < 2 ∨ 24 < v) :
    Calls Tryz.prog 33 #[.int .i64 n, .int .i64 v] w fun e w' => e = .returned (.tuple #[.slice none 0 0, .int .i64 1]) ∧ w = w' := by
  rcases h with h | h
  · go_enter Tryz.func33, Tryz.ntmps33
    go_wp2
    go_ret2
    exact ⟨rfl, rfl⟩
  · have h' : ¬ v < 2 := by omega
    go_enter Tryz.func33, Tryz.ntmps33
    go_wp2
    go_ret2
    exact ⟨rfl, rfl⟩

theorem format_no (n v : Int) (w : World) (h0 : -9223372036854775808 ≤ n) (h1 : n ≤ 9223372036854775807) (hv0 : 2 ≤ v) (hv1 : v ≤ 24) (hf : fitsB n v = false) :
    Calls Tryz.prog 33 #[.int .i64 n, .int .i64 v] w fun e w' => e = .returned (.tuple #[.slice none 0 0, .int .i64 20]) ∧ w = w' := by
  go_enter Tryz.func33, Tryz.ntmps33
  go_wp2_with (go_at_call 50; refine (fits_w _ _ _ (by omega) (by omega)).mono ?_; rintro e w' ⟨rfl, rfl⟩)
  go_ret2
  exact ⟨rfl, rfl⟩

end Go.Proofs.YtnmmaedngdibeaaGreatDoor.H
