/-
  Contract of the document's own reader of digits: pannierref02.Parse, where the first byte is below 128.
-/
import Derived.Test.YtmholjjicklnhabDoorPlain4
import Derived.Deep.CutBlock
namespace Go.Proofs.YtmholjjicklnhabDoor
open Go.RowKit
theorem dig_more {zs : List Int} {f t : Nat} (H : Hid (∀ i, f ≤ i → i < t → isDig (nth zs i))) (d : 48 ≤ nth zs t) (d2 : nth zs t ≤ 55) : Hid (∀ i, f ≤ i → i < t + 1 → isDig (nth zs i)) := by
  intro i h1 h2
  by_cases e : i = t
  · subst e; exact ⟨d, d2⟩
  · exact H.out i h1 (by omega)

theorem rest_more {zs : List Int} {t j : Nat} (H : Hid (∀ k, t ≤ k → k < j → nth zs k = 0 ∨ nth zs k = 32)) (d : nth zs j = 0 ∨ nth zs j = 32) : Hid (∀ k, t ≤ k → k < j + 1 → nth zs k = 0 ∨ nth zs k = 32) := by
  intro i h1 h2
  by_cases e : i = j
  · subst e; exact d
  · exact H.out i h1 (by omega)

set_option maxRecDepth 100000 in
set_option maxHeartbeats 2000000 in
theorem refp_digits (zs : List Int) (w : World) (hz : Hid (∀ z ∈ zs, isByte z)) (hl : zs.length ≤ 300) (hp : 0 < zs.length) (he : (strOf zs).toList.isEmpty = false) (hf : nth zs 0 < 128) :
    Calls Tryd.prog 28 #[.string (strOf zs)] w fun e w' => e = .returned (.tuple #[.int .i64 (resN (dgo zs 0 0)), .int .i64 (resE (dgo zs 0 0))]) ∧ w = w' := by
  have hs := strOf_sizeR
  have hix := strOf_at zs hz
  go_enter Tryd.func28, Tryd.ntmps28
  go_upto_block 0 with fail
  go_cut [6] from 38 (fun f wr => w = wr ∧ ∃ n : Nat, f = .int .i64 n ∧ n ≤ zs.length ∧ Hid (dgo zs 0 0 = dgo (zs.drop n) 0 0) ∧ Hid (n < zs.length → nth zs n ≠ 32))
  case first =>
    go_wp2_with fail
    go_loop [6] (fun i => ∃ f : Nat, f ≤ zs.length ∧ i = .int .i64 f ∧ Hid (dgo zs 0 0 = dgo (zs.drop f) 0 0)) (fun i => zs.length - (intOf i).toNat)
    case atStart => exact ⟨0, by omega, rfl, rfl⟩
    case round =>
      obtain ⟨f, hf0, rfl, H⟩ := hrel
      by_cases c : f < zs.length
      · by_cases d : nth zs f = 32
        · go_wp2
          go_round
          case rel => exact ⟨f + 1, by omega, by go_num, H.out.trans (by rw [drop_nth zs f c]; exact dgo_a d rfl)⟩
          case measure => simp [intOf]; omega
        · go_wp2
          go_meet
          case rel => exact ⟨rfl, f, rfl, hf0, H, fun _ => d⟩
      · go_wp2
        go_meet
        case rel => exact ⟨rfl, f, rfl, hf0, H, fun h => absurd h c⟩
  case rest =>
    obtain ⟨rfl, f, rfl, hf0, H0, S1⟩ := hcut
    go_upto_block 2 with fail
    go_cut [7] from 51 (fun t wr => w = wr ∧ ∃ n : Nat, t = .int .i64 n ∧ f ≤ n ∧ n ≤ zs.length ∧ Hid (∀ i, f ≤ i → i < n → isDig (nth zs i)) ∧ Hid (n < zs.length → ¬ isDig (nth zs n)))
    case first =>
      go_wp2_with fail
      go_loop [7] (fun i => ∃ t : Nat, f ≤ t ∧ t ≤ zs.length ∧ i = .int .i64 t ∧ Hid (∀ i, f ≤ i → i < t → isDig (nth zs i))) (fun i => zs.length - (intOf i).toNat)
      case atStart => exact ⟨f, Nat.le_refl _, hf0, rfl, fun i h1 h2 => by omega⟩
      case round =>
        obtain ⟨t, ht0, ht1, rfl, H⟩ := hrel
        by_cases c : t < zs.length
        · by_cases d : 48 ≤ nth zs t
          · by_cases d2 : nth zs t ≤ 55
            · go_wp2
              go_round
              case rel => exact ⟨t + 1, by omega, by omega, by go_num, dig_more H d d2⟩
              case measure => simp [intOf]; omega
            · go_wp2
              go_meet
              case rel => exact ⟨rfl, t, rfl, ht0, ht1, H, fun _ => by unfold isDig; omega⟩
          · go_wp2
            go_meet
            case rel => exact ⟨rfl, t, rfl, ht0, ht1, H, fun _ => by unfold isDig; omega⟩
        · go_wp2
          go_meet
          case rel => exact ⟨rfl, t, rfl, ht0, ht1, H, fun h => absurd h c⟩
    case rest =>
      obtain ⟨rfl, t, rfl, ht0, ht1, F2, S2⟩ := hcut
      go_wp2_with fail
      go_loop [8] (fun i => ∃ j : Nat, t ≤ j ∧ j ≤ zs.length ∧ i = .int .i64 j ∧ Hid (∀ k, t ≤ k → k < j → nth zs k = 0 ∨ nth zs k = 32)) (fun i => zs.length - (intOf i).toNat)
      case atStart => exact ⟨t, Nat.le_refl _, ht1, rfl, fun i h1 h2 => by omega⟩
      case round =>
        obtain ⟨j, hj0, hj1, rfl, H⟩ := hrel
        by_cases c : j < zs.length
        · by_cases d : nth zs j = 0
          · go_wp2
            go_round
            case rel => exact ⟨j + 1, by omega, by omega, by go_num, rest_more H (.inl d)⟩
            case measure => simp [intOf]; omega
          · by_cases d2 : nth zs j = 32
            · go_wp2
              go_round
              case rel => exact ⟨j + 1, by omega, by omega, by go_num, rest_more H (.inr d2)⟩
              case measure => simp [intOf]; omega
            · have d3 : (nth zs j != 0) = true := by simpa using d
              have d4 : (nth zs j != 32) = true := by simpa using d2
              go_wp2
              go_ret2
              exact ⟨ret_bad (read_bad zs f t j H0.out ht0 ht1 F2.out S1.out S2.out hj0 c ⟨d, d2⟩ H.out), rfl⟩
        · have HR : Hid (dgo zs 0 0 = if val8 (seg zs f t) 0 ≤ 9223372036854775807 then some (val8 (seg zs f t) 0) else none) :=
            read_ok zs f t H0.out ht0 ht1 F2.out (fun k h1 h2 => H.out k h1 (by omega))
          clear H
          go_upto_block 6 with fail
          go_cut [6] from 86 (fun g wr => w = wr ∧ ∃ n : Nat, g = .int .i64 n ∧ f ≤ n ∧ n ≤ t ∧ Hid (val8 (seg zs f t) 0 = val8 (seg zs n t) 0) ∧ Hid (n < t → nth zs n ≠ 48))
          case first =>
            go_wp2_with fail
            go_loop [6] (fun i => ∃ g : Nat, f ≤ g ∧ g ≤ t ∧ i = .int .i64 g ∧ Hid (val8 (seg zs f t) 0 = val8 (seg zs g t) 0)) (fun i => t - (intOf i).toNat)
            case atStart => exact ⟨f, Nat.le_refl _, ht0, rfl, rfl⟩
            case round =>
              obtain ⟨g, hg0, hg1, rfl, H⟩ := hrel
              by_cases c2 : g < t
              · by_cases d : nth zs g = 48
                · go_wp2
                  go_round
                  case rel => exact ⟨g + 1, by omega, by omega, by go_num, H.out.trans (skip_nought zs g t c2 ht1 d)⟩
                  case measure => simp [intOf]; omega
                · go_wp2
                  go_meet
                  case rel => exact ⟨rfl, g, rfl, hg0, hg1, H, fun _ => d⟩
              · go_wp2
                go_meet
                case rel => exact ⟨rfl, g, rfl, hg0, hg1, H, fun h => absurd h c2⟩
          case rest =>
            obtain ⟨rfl, g, rfl, hg0, hg1, HG, S4⟩ := hcut
            have HD : Hid (∀ i, g ≤ i → i < t → isDig (nth zs i)) := fun i h1 h2 => F2.out i (by omega) h2
            by_cases c3 : 21 < t - g
            · have c4 : (21 : Int) < (t : Int) - g := by omega
              go_wp2
              go_ret2
              exact ⟨ret_bad (HR.out.trans (by rw [HG.out, if_neg (too_long zs g t ht1 HD.out c3 (S4.out (by omega)))])), rfl⟩
            · have c4 : ¬ (21 : Int) < (t : Int) - g := by omega
              have HV : Hid (dgo zs 0 0 = some (val8 (seg zs g t) 0)) := HR.out.trans (by
                have b := seg_bd zs g t 21 ht1 hg1 HD.out (by omega)
                rw [show (8 : Int) ^ 21 = 9223372036854775808 by decide] at b
                rw [HG.out, if_pos (by omega)])
              clear HR HG
              go_wp2_with fail
              go_loop [9, 10] (fun n i => ∃ k : Nat, g ≤ k ∧ k ≤ t ∧ i = .int .i64 k ∧ n = .int .i64 (val8 (seg zs g k) 0)) (fun _ i => t - (intOf i).toNat)
              case atStart => exact ⟨g, Nat.le_refl _, hg1, rfl, by simp [seg, val8]⟩
              case round =>
                obtain ⟨k, hk0, hk1, rfl, rfl⟩ := hrel
                by_cases c5 : k < t
                · have b := seg_bd zs g k 20 (by omega) hk0 (fun i h1 h2 => HD.out i h1 (by omega)) (by omega)
                  rw [show (8 : Int) ^ 20 = 1152921504606846976 by decide] at b
                  have E : Hid (val8 (seg zs g (k + 1)) 0 = 8 * val8 (seg zs g k) 0 + (nth zs k - 48)) := seg_step zs g k hk0 (by omega)
                  have q := HD.out k hk0 c5
                  unfold isDig at q
                  generalize val8 (seg zs g k) 0 = X at *
                  go_wp2
                  go_round
                  case rel => exact ⟨k + 1, by omega, by omega, by go_num, by rw [E.out]⟩
                  case measure => simp [intOf]; omega
                · obtain rfl : k = t := by omega
                  go_wp2
                  go_ret2
                  exact ⟨ret_good HV.out, rfl⟩
end Go.Proofs.YtmholjjicklnhabDoor
