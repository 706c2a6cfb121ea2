/-
  Contract: octal.Parse over any bytes.
-/
import Derived.Test.YtnmmaedngdibeaaGreatDoorHDigits
namespace Go.Proofs.YtnmmaedngdibeaaGreatDoor.H
open Go.RowKit

set_option maxHeartbeats 1000000 in
theorem parse_some (b off : Nat) (cap : Nat) (z : Int) (r : List Int) (w : World) (hcap : r.length + 1 ≤ cap) (hbig : cap ≤ 9223372036854775807)
    (hc : ∀ i : Nat, i < (z :: r).length → w.cell? ⟨b, off + i, none⟩ = some (.int .u8 ((z :: r)[i]?.getD 0))) (hz : ∀ i : Nat, 0 ≤ (z :: r)[i]?.getD 0 ∧ (z :: r)[i]?.getD 0 ≤ 255) :
    Calls Tryz.prog 77 #[.slice (some ⟨b, off, none⟩) (r.length + 1) cap] w fun e w' => e = .returned (.tuple #[.int .i64 (resN (parseO (z :: r))), .int .i64 (resE (parseO (z :: r)))]) ∧ w' = w := by
  have h0 : w.cell? ⟨b, off, none⟩ = some (.int .u8 z) := by simpa using hc 0 (by simp)
  have hz0 := hz 0
  simp at hz0
  have hd := fun W (e : W = w) => digits_some b off cap (z :: r) W (by simp; omega) (e ▸ hc) hz
  have hr : Bytes w (some ⟨b, off + 1, none⟩) r := by
    refine ⟨by omega, .inr ⟨b, off + 1, rfl, fun i hi => ?_⟩, fun i => ?_⟩
    · have := hc (i + 1) (by simpa using hi)
      simpa [Nat.add_assoc, Nat.add_comm 1 i] using this
    · simpa using hz (i + 1)
  clear hc hz
  by_cases c1 : z < 128
  · go_enter Tryz.func77, Tryz.ntmps77
    go_wp2_with (go_at_call 95; refine (hd _ rfl).mono ?_; rintro e w' ⟨rfl, rfl⟩)
    go_ret2
    exact ⟨by simp [parseO, c1], rfl⟩
  · clear hd
    by_cases hcap1 : cap = 1
    · have hr0 : r = [] := List.length_eq_zero_iff.1 (by omega)
      subst hr0 hcap1
      clear hr
      by_cases c2 : z = 128
      · subst c2
        go_enter Tryz.func77, Tryz.ntmps77
        go_wp2_with (go_at_call 96; refine (bytes_nil _ _ _ _).mono ?_; rintro e w' ⟨rfl, rfl⟩)
        go_ret2
        exact ⟨rfl, rfl⟩
      · by_cases c3 : z = 255
        · subst c3
          go_enter Tryz.func77, Tryz.ntmps77
          go_wp2_with (go_at_call 96; refine (bytes_nil _ _ _ _).mono ?_; rintro e w' ⟨rfl, rfl⟩)
          go_ret2
          exact ⟨rfl, rfl⟩
        · go_enter Tryz.func77, Tryz.ntmps77
          go_wp2
          go_ret2
          exact ⟨by simp [parseO, Int.not_lt.2 c1, c2, c3, resN, resE], rfl⟩
    · by_cases c2 : z = 128
      · subst c2
        go_enter Tryz.func77, Tryz.ntmps77
        go_wp2_with (go_at_call 96; refine (bytes_any _ _ _ r _ (by omega) (by omega) hr).mono ?_; rintro e w' ⟨rfl, rfl⟩)
        go_ret2
        exact ⟨by simp [parseO], rfl⟩
      · by_cases c3 : z = 255
        · subst c3
          go_enter Tryz.func77, Tryz.ntmps77
          go_wp2_with (go_at_call 96; refine (bytes_any _ _ _ r _ (by omega) (by omega) hr).mono ?_; rintro e w' ⟨rfl, rfl⟩)
          go_ret2
          exact ⟨by simp [parseO], rfl⟩
        · go_enter Tryz.func77, Tryz.ntmps77
          go_wp2
          go_ret2
          exact ⟨by simp [parseO, Int.not_lt.2 c1, c2, c3, resN, resE], rfl⟩

theorem parse_nil (a : Option Addr) (cap : Nat) (w : World) :
    Calls Tryz.prog 77 #[.slice a 0 cap] w fun e w' => e = .returned (.tuple #[.int .i64 0, .int .i64 0]) ∧ w' = w := by
  go_enter Tryz.func77, Tryz.ntmps77
  go_wp2_with (go_at_call 95; refine (digits_nil _ _ _).mono ?_; rintro e w' ⟨rfl, rfl⟩)
  go_ret2
  exact ⟨rfl, rfl⟩

/-- octal.Parse over any bytes: what 'parseO' says; the world is as it was. -/
theorem parse_any (a : Option Addr) (cap : Nat) (zs : List Int) (w : World) (hcap : zs.length ≤ cap) (hbig : cap ≤ 9223372036854775807) (h : Bytes w a zs) :
    Calls Tryz.prog 77 #[.slice a zs.length cap] w fun e w' => e = .returned (.tuple #[.int .i64 (resN (parseO zs)), .int .i64 (resE (parseO zs))]) ∧ w' = w := by
  obtain ⟨h1, rfl | ⟨b, off, rfl, hc⟩, h3⟩ := h
  · exact parse_nil a cap w
  · cases zs with
    | nil => exact parse_nil _ cap w
    | cons z r => exact parse_some b off cap z r w hcap hbig hc h3

theorem parse_w (a : Option Addr) (cap : Nat) (zs : List Int) (w : World) (hcap : zs.length ≤ cap) (hbig : cap ≤ 9223372036854775807) (h : Bytes w a zs) :
    Calls Tryz.prog 77 #[.slice a zs.length cap] w fun e w' => e = .returned (.tuple #[.int .i64 (resN (parseO zs)), .int .i64 (resE (parseO zs))]) ∧ w = w' :=
  (parse_any a cap zs w hcap hbig h).mono fun _ _ h => ⟨h.1, h.2.symm⟩

end Go.Proofs.YtnmmaedngdibeaaGreatDoor.H
