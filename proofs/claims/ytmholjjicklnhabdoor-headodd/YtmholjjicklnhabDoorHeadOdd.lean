/-
  The card of the law HeadOdd holds: it returns true for every header, place and turn, the variables that it lists being as the text lays them.
-/
import Derived.Test.YtmholjjicklnhabDoorLaid
import Derived.Test.YtmholjjicklnhabDoorCards
import Derived.Test.YtmholjjicklnhabDoorTie
import Derived.Test.YtmholjjicklnhabDoorOdd0
import Derived.OpenShut
import Derived.ShutString
import Derived.ChangeOld
import Derived.ProofKit
namespace Go.Proofs.YtmholjjicklnhabDoor.headOdd
open Go.ChangeShapes Go.WideShapes Go.RowKit
set_option linter.unusedVariables false
set_option linter.unusedSimpArgs false

/-- no header is written -/
theorem walk_no (f : Int) (n l p u r : ByteArray) (ty a b c d m k turn : Int) (w : World) (L : Laid w) (code : Int) (hcode : ¬ code = 0) (hE : ∀ W, Below w.heap.size w W → Calls Tryd.prog 14 #[.agg #[.int .i64 f, .string n, .string l, .string p, .string u, .string r, .int .u8 ty, .int .i64 a, .int .i64 b, .int .i64 c, .int .i64 d, .int .i64 m]] W fun e w' => e = .returned (.tuple #[.slice none 0 0, .int .i64 code]) ∧ Below W.heap.size W w') :
    Calls Tryd.prog 6 #[.agg #[.int .i64 f, .string n, .string l, .string p, .string u, .string r, .int .u8 ty, .int .i64 a, .int .i64 b, .int .i64 c, .int .i64 d, .int .i64 m], .int .i64 k, .int .u8 turn] w fun e w' => e = .returned (.bool true) ∧ Below w.heap.size w w' := by
  have b0 : Below w.heap.size w (w.alloc (.cells #[.int .i64 f, .string n, .string l, .string p, .string u, .string r, .int .u8 ty, .int .i64 a, .int .i64 b, .int .i64 c, .int .i64 d, .int .i64 m] 25)) := (Below.refl _ w).alloc (Nat.le_refl _) _
  have HB0 : Hid (Below w.heap.size w (w.alloc (.cells #[.int .i64 f, .string n, .string l, .string p, .string u, .string r, .int .u8 ty, .int .i64 a, .int .i64 b, .int .i64 c, .int .i64 d, .int .i64 m] 25))) := b0
  have q := reads_ok (w.alloc (.cells #[.int .i64 f, .string n, .string l, .string p, .string u, .string r, .int .u8 ty, .int .i64 a, .int .i64 b, .int .i64 c, .int .i64 d, .int .i64 m] 25)) (L.grow b0)
  have HK : Hid (∀ W1, Below (w.alloc (.cells #[.int .i64 f, .string n, .string l, .string p, .string u, .string r, .int .u8 ty, .int .i64 a, .int .i64 b, .int .i64 c, .int .i64 d, .int .i64 m] 25)).heap.size (w.alloc (.cells #[.int .i64 f, .string n, .string l, .string p, .string u, .string r, .int .u8 ty, .int .i64 a, .int .i64 b, .int .i64 c, .int .i64 d, .int .i64 m] 25)) W1 → ∀ j v, (#[.int .i64 f, .string n, .string l, .string p, .string u, .string r, .int .u8 ty, .int .i64 a, .int .i64 b, .int .i64 c, .int .i64 d, .int .i64 m] : Array Value)[j]? = some v → W1.cell? ⟨w.heap.size, j, none⟩ = some v) := fun W1 hb j v h => cell_grow (new_cell w _ 25 j v h) hb
  clear b0
  have HE : Hid _ := hE
  have hc2 : (code != 0) = true := by simpa using hcode
  clear hE
  go_enter Tryd.func6, Tryd.ntmps6
  go_wp2_with (first | (go_at_call 9; refine q.mono ?_; rintro e w1 ⟨rfl, hb1⟩; have x0 := HK.out _ hb1 0 _ rfl; have x1 := HK.out _ hb1 1 _ rfl; have x2 := HK.out _ hb1 2 _ rfl; have x3 := HK.out _ hb1 3 _ rfl; have x4 := HK.out _ hb1 4 _ rfl; have x5 := HK.out _ hb1 5 _ rfl; have x6 := HK.out _ hb1 6 _ rfl; have x7 := HK.out _ hb1 7 _ rfl; have x8 := HK.out _ hb1 8 _ rfl; have x9 := HK.out _ hb1 9 _ rfl; have x10 := HK.out _ hb1 10 _ rfl; have x11 := HK.out _ hb1 11 _ rfl; have HB1 : Hid (Below w.heap.size w w1) := HB0.out.trans (hb1.mono HB0.out.size)) | (go_at_call 14; refine (HE.out _ HB1.out).mono ?_; rintro e w2 ⟨rfl, b2⟩))
  all_goals go_ret
  all_goals exact ⟨by first | rfl | simp, HB1.out.trans (b2.mono HB1.out.size)⟩

set_option maxRecDepth 100000 in
set_option maxHeartbeats 4000000 in
theorem walk_yes (f : Int) (n l p u r : ByteArray) (ty a b c d m k turn : Int) (w : World) (L : Laid w) (hk : rng k) (ht : 0 ≤ turn ∧ turn ≤ 255) (zs : List Int) (hl : zs.length = 512) (hb : AllB zs)
    (hE : ∀ W, Below w.heap.size w W → Calls Tryd.prog 14 #[.agg #[.int .i64 f, .string n, .string l, .string p, .string u, .string r, .int .u8 ty, .int .i64 a, .int .i64 b, .int .i64 c, .int .i64 d, .int .i64 m]] W fun e w' => ∃ g, e = .returned (.tuple #[.slice (some ⟨g, 0, none⟩) 512 512, .int .i64 0]) ∧ Own W w' g (sealL zs)) :
    Calls Tryd.prog 6 #[.agg #[.int .i64 f, .string n, .string l, .string p, .string u, .string r, .int .u8 ty, .int .i64 a, .int .i64 b, .int .i64 c, .int .i64 d, .int .i64 m], .int .i64 k, .int .u8 turn] w fun e w' => e = .returned (.bool true) ∧ Below w.heap.size w w' := by
  have b0 : Below w.heap.size w (w.alloc (.cells #[.int .i64 f, .string n, .string l, .string p, .string u, .string r, .int .u8 ty, .int .i64 a, .int .i64 b, .int .i64 c, .int .i64 d, .int .i64 m] 25)) := (Below.refl _ w).alloc (Nat.le_refl _) _
  have HB0 : Hid (Below w.heap.size w (w.alloc (.cells #[.int .i64 f, .string n, .string l, .string p, .string u, .string r, .int .u8 ty, .int .i64 a, .int .i64 b, .int .i64 c, .int .i64 d, .int .i64 m] 25))) := b0
  have q := reads_ok (w.alloc (.cells #[.int .i64 f, .string n, .string l, .string p, .string u, .string r, .int .u8 ty, .int .i64 a, .int .i64 b, .int .i64 c, .int .i64 d, .int .i64 m] 25)) (L.grow b0)
  have HK : Hid (∀ W1, Below (w.alloc (.cells #[.int .i64 f, .string n, .string l, .string p, .string u, .string r, .int .u8 ty, .int .i64 a, .int .i64 b, .int .i64 c, .int .i64 d, .int .i64 m] 25)).heap.size (w.alloc (.cells #[.int .i64 f, .string n, .string l, .string p, .string u, .string r, .int .u8 ty, .int .i64 a, .int .i64 b, .int .i64 c, .int .i64 d, .int .i64 m] 25)) W1 → ∀ j v, (#[.int .i64 f, .string n, .string l, .string p, .string u, .string r, .int .u8 ty, .int .i64 a, .int .i64 b, .int .i64 c, .int .i64 d, .int .i64 m] : Array Value)[j]? = some v → W1.cell? ⟨w.heap.size, j, none⟩ = some v) := fun W1 hb j v h => cell_grow (new_cell w _ 25 j v h) hb
  clear b0
  have HE : Hid _ := hE
  have HL : Hid (zs.length = 512) := hl
  have HA : Hid (AllB zs) := hb
  clear hE hl hb
  by_cases hin : 0 ≤ k ∧ k ≤ 511 ∧ ¬ (148 ≤ k ∧ k < 156) ∧ ¬ turn = 0
  · obtain ⟨i0, i1, i2, i3⟩ := hin
    obtain ⟨j, rfl⟩ := Int.eq_ofNat_of_zero_le i0
    have hj : j < 512 := by omega
    have hsl : Hid ((sealL zs).length = 512) := sealL_length zs HL.out
    have hsa : Hid (AllB (sealL zs)) := sealL_allB zs HA.out
    have ho := byte_at (sealL zs) hsa.out j
    have hx := xor_byte ((sealL zs)[j]?.getD 0) turn ho ht
    have hne := hx.2 i3
    have HR : Hid (rightB ((sealL zs).set j (bits .xor .u8 ((sealL zs)[j]?.getD 0) turn)) = false) := turned_no zs HL.out HA.out j _ hj (by omega) hx.1 hne
    have HS : Hid (AllB ((sealL zs).set j (bits .xor .u8 ((sealL zs)[j]?.getD 0) turn))) := allB_set _ hsa.out _ _ hx.1
    have HSl : Hid (((sealL zs).set j (bits .xor .u8 ((sealL zs)[j]?.getD 0) turn)).length = 512) := by show _ = _; rw [List.length_set, hsl.out]
    obtain ⟨x0, x1⟩ := hx.1
    clear hne hx
    generalize hz : (sealL zs)[j]?.getD 0 = z at *
    have HZ : Hid ((sealL zs)[j]?.getD 0 = z) := hz
    clear hz
    have j1 : (j : Int) < 512 := by omega
    have i3b : (turn == 0) = false := by simpa using i3
    by_cases h148 : (148 : Int) ≤ (j : Int)
    · have h156 : ¬ (j : Int) < 156 := by omega
      clear i2
      skip
      go_enter Tryd.func6, Tryd.ntmps6
      go_wp2_with (first | (go_at_call 9; refine q.mono ?_; rintro e w1 ⟨rfl, hb1⟩; have x0 := HK.out _ hb1 0 _ rfl; have x1 := HK.out _ hb1 1 _ rfl; have x2 := HK.out _ hb1 2 _ rfl; have x3 := HK.out _ hb1 3 _ rfl; have x4 := HK.out _ hb1 4 _ rfl; have x5 := HK.out _ hb1 5 _ rfl; have x6 := HK.out _ hb1 6 _ rfl; have x7 := HK.out _ hb1 7 _ rfl; have x8 := HK.out _ hb1 8 _ rfl; have x9 := HK.out _ hb1 9 _ rfl; have x10 := HK.out _ hb1 10 _ rfl; have x11 := HK.out _ hb1 11 _ rfl; have HB1 : Hid (Below w.heap.size w w1) := HB0.out.trans (hb1.mono HB0.out.size)) | (go_at_call 14; refine (HE.out _ HB1.out).mono ?_; rintro e w2 ⟨g, rfl, O2⟩; have c2 : w2.cell? ⟨g, j, none⟩ = some (.int .u8 z) := (by rw [← HZ.out]; exact O2.cell j (by rw [hsl.out]; omega)); have f2 := O2.frozen j; have O3 := O2.set j (by rw [hsl.out]; omega) (bits .xor .u8 z turn); have q3 := dec_sum ⟨g, 0, none⟩ 512 _ _ HS HSl (by omega) (by omega) O3.src HR.out; unfold hzero at q3; have HO3 : Hid _ := O3; clear O2 O3) | (go_at_call 10; refine q3.mono ?_; rintro e w4 ⟨rfl, b4⟩; have c4 := cell_grow (HO3.out.cell j (by rw [HSl.out]; omega)) b4; have hl4 : g < w4.heap.size := World.block_lt_of_cell? w4 _ c4))
      all_goals go_ret
      all_goals exact ⟨by first | rfl | simp, by have hB := HB1.out.trans ((HO3.out.below.trans (b4.mono HO3.out.below.size)).mono HB1.out.size); exact hB.alloc hB.size _⟩
    · clear i2
      go_enter Tryd.func6, Tryd.ntmps6
      go_wp2_with (first | (go_at_call 9; refine q.mono ?_; rintro e w1 ⟨rfl, hb1⟩; have x0 := HK.out _ hb1 0 _ rfl; have x1 := HK.out _ hb1 1 _ rfl; have x2 := HK.out _ hb1 2 _ rfl; have x3 := HK.out _ hb1 3 _ rfl; have x4 := HK.out _ hb1 4 _ rfl; have x5 := HK.out _ hb1 5 _ rfl; have x6 := HK.out _ hb1 6 _ rfl; have x7 := HK.out _ hb1 7 _ rfl; have x8 := HK.out _ hb1 8 _ rfl; have x9 := HK.out _ hb1 9 _ rfl; have x10 := HK.out _ hb1 10 _ rfl; have x11 := HK.out _ hb1 11 _ rfl; have HB1 : Hid (Below w.heap.size w w1) := HB0.out.trans (hb1.mono HB0.out.size)) | (go_at_call 14; refine (HE.out _ HB1.out).mono ?_; rintro e w2 ⟨g, rfl, O2⟩; have c2 : w2.cell? ⟨g, j, none⟩ = some (.int .u8 z) := (by rw [← HZ.out]; exact O2.cell j (by rw [hsl.out]; omega)); have f2 := O2.frozen j; have O3 := O2.set j (by rw [hsl.out]; omega) (bits .xor .u8 z turn); have q3 := dec_sum ⟨g, 0, none⟩ 512 _ _ HS HSl (by omega) (by omega) O3.src HR.out; unfold hzero at q3; have HO3 : Hid _ := O3; clear O2 O3) | (go_at_call 10; refine q3.mono ?_; rintro e w4 ⟨rfl, b4⟩; have c4 := cell_grow (HO3.out.cell j (by rw [HSl.out]; omega)) b4; have hl4 : g < w4.heap.size := World.block_lt_of_cell? w4 _ c4))
      all_goals go_ret
      all_goals exact ⟨by first | rfl | simp, by have hB := HB1.out.trans ((HO3.out.below.trans (b4.mono HO3.out.below.size)).mono HB1.out.size); exact hB.alloc hB.size _⟩
  · have hout : k < 0 ∨ 511 < k ∨ (148 ≤ k ∧ k < 156) ∨ turn = 0 := by omega
    have ARM : True := trivial
    by_cases o1 : k < 0
    · go_enter Tryd.func6, Tryd.ntmps6
      go_wp2_with (first | (go_at_call 9; refine q.mono ?_; rintro e w1 ⟨rfl, hb1⟩; have x0 := HK.out _ hb1 0 _ rfl; have x1 := HK.out _ hb1 1 _ rfl; have x2 := HK.out _ hb1 2 _ rfl; have x3 := HK.out _ hb1 3 _ rfl; have x4 := HK.out _ hb1 4 _ rfl; have x5 := HK.out _ hb1 5 _ rfl; have x6 := HK.out _ hb1 6 _ rfl; have x7 := HK.out _ hb1 7 _ rfl; have x8 := HK.out _ hb1 8 _ rfl; have x9 := HK.out _ hb1 9 _ rfl; have x10 := HK.out _ hb1 10 _ rfl; have x11 := HK.out _ hb1 11 _ rfl; have HB1 : Hid (Below w.heap.size w w1) := HB0.out.trans (hb1.mono HB0.out.size)) | (go_at_call 14; refine (HE.out _ HB1.out).mono ?_; rintro e w2 ⟨g, rfl, O2⟩; have HO2 : Hid _ := O2.below; clear O2))
      all_goals go_ret
      all_goals exact ⟨by first | rfl | simp, HB1.out.trans (HO2.out.mono HB1.out.size)⟩
    by_cases o2 : 511 < k
    · go_enter Tryd.func6, Tryd.ntmps6
      go_wp2_with (first | (go_at_call 9; refine q.mono ?_; rintro e w1 ⟨rfl, hb1⟩; have x0 := HK.out _ hb1 0 _ rfl; have x1 := HK.out _ hb1 1 _ rfl; have x2 := HK.out _ hb1 2 _ rfl; have x3 := HK.out _ hb1 3 _ rfl; have x4 := HK.out _ hb1 4 _ rfl; have x5 := HK.out _ hb1 5 _ rfl; have x6 := HK.out _ hb1 6 _ rfl; have x7 := HK.out _ hb1 7 _ rfl; have x8 := HK.out _ hb1 8 _ rfl; have x9 := HK.out _ hb1 9 _ rfl; have x10 := HK.out _ hb1 10 _ rfl; have x11 := HK.out _ hb1 11 _ rfl; have HB1 : Hid (Below w.heap.size w w1) := HB0.out.trans (hb1.mono HB0.out.size)) | (go_at_call 14; refine (HE.out _ HB1.out).mono ?_; rintro e w2 ⟨g, rfl, O2⟩; have HO2 : Hid _ := O2.below; clear O2))
      all_goals go_ret
      all_goals exact ⟨by first | rfl | simp, HB1.out.trans (HO2.out.mono HB1.out.size)⟩
    by_cases o3 : 148 ≤ k
    · by_cases o4 : k < 156
      · go_enter Tryd.func6, Tryd.ntmps6
        go_wp2_with (first | (go_at_call 9; refine q.mono ?_; rintro e w1 ⟨rfl, hb1⟩; have x0 := HK.out _ hb1 0 _ rfl; have x1 := HK.out _ hb1 1 _ rfl; have x2 := HK.out _ hb1 2 _ rfl; have x3 := HK.out _ hb1 3 _ rfl; have x4 := HK.out _ hb1 4 _ rfl; have x5 := HK.out _ hb1 5 _ rfl; have x6 := HK.out _ hb1 6 _ rfl; have x7 := HK.out _ hb1 7 _ rfl; have x8 := HK.out _ hb1 8 _ rfl; have x9 := HK.out _ hb1 9 _ rfl; have x10 := HK.out _ hb1 10 _ rfl; have x11 := HK.out _ hb1 11 _ rfl; have HB1 : Hid (Below w.heap.size w w1) := HB0.out.trans (hb1.mono HB0.out.size)) | (go_at_call 14; refine (HE.out _ HB1.out).mono ?_; rintro e w2 ⟨g, rfl, O2⟩; have HO2 : Hid _ := O2.below; clear O2))
        all_goals go_ret
        all_goals exact ⟨by first | rfl | simp, HB1.out.trans (HO2.out.mono HB1.out.size)⟩
      · obtain rfl : turn = 0 := by omega
        go_enter Tryd.func6, Tryd.ntmps6
        go_wp2_with (first | (go_at_call 9; refine q.mono ?_; rintro e w1 ⟨rfl, hb1⟩; have x0 := HK.out _ hb1 0 _ rfl; have x1 := HK.out _ hb1 1 _ rfl; have x2 := HK.out _ hb1 2 _ rfl; have x3 := HK.out _ hb1 3 _ rfl; have x4 := HK.out _ hb1 4 _ rfl; have x5 := HK.out _ hb1 5 _ rfl; have x6 := HK.out _ hb1 6 _ rfl; have x7 := HK.out _ hb1 7 _ rfl; have x8 := HK.out _ hb1 8 _ rfl; have x9 := HK.out _ hb1 9 _ rfl; have x10 := HK.out _ hb1 10 _ rfl; have x11 := HK.out _ hb1 11 _ rfl; have HB1 : Hid (Below w.heap.size w w1) := HB0.out.trans (hb1.mono HB0.out.size)) | (go_at_call 14; refine (HE.out _ HB1.out).mono ?_; rintro e w2 ⟨g, rfl, O2⟩; have HO2 : Hid _ := O2.below; clear O2))
        all_goals go_ret
        all_goals exact ⟨by first | rfl | simp, HB1.out.trans (HO2.out.mono HB1.out.size)⟩
    · obtain rfl : turn = 0 := by omega
      go_enter Tryd.func6, Tryd.ntmps6
      go_wp2_with (first | (go_at_call 9; refine q.mono ?_; rintro e w1 ⟨rfl, hb1⟩; have x0 := HK.out _ hb1 0 _ rfl; have x1 := HK.out _ hb1 1 _ rfl; have x2 := HK.out _ hb1 2 _ rfl; have x3 := HK.out _ hb1 3 _ rfl; have x4 := HK.out _ hb1 4 _ rfl; have x5 := HK.out _ hb1 5 _ rfl; have x6 := HK.out _ hb1 6 _ rfl; have x7 := HK.out _ hb1 7 _ rfl; have x8 := HK.out _ hb1 8 _ rfl; have x9 := HK.out _ hb1 9 _ rfl; have x10 := HK.out _ hb1 10 _ rfl; have x11 := HK.out _ hb1 11 _ rfl; have HB1 : Hid (Below w.heap.size w w1) := HB0.out.trans (hb1.mono HB0.out.size)) | (go_at_call 14; refine (HE.out _ HB1.out).mono ?_; rintro e w2 ⟨g, rfl, O2⟩; have HO2 : Hid _ := O2.below; clear O2))
      all_goals go_ret
      all_goals exact ⟨by first | rfl | simp, HB1.out.trans (HO2.out.mono HB1.out.size)⟩

theorem walk (f : Int) (n l p u r : ByteArray) (ty a b c d m k turn : Int) (w : World) (L : Laid w) (fit : (0 ≤ ty ∧ ty ≤ 255) ∧ rng a ∧ rng b ∧ rng c ∧ rng d ∧ rng m) (hk : -9223372036854775808 ≤ k ∧ k ≤ 9223372036854775807) (ht : (Lit.int .u8 turn).wf = true) :
    Calls Tryd.prog 6 #[.agg (hcells f n l p u r ty a b c d m), .int .i64 k, .int .u8 turn] w fun e w' => e = .returned (.bool true) ∧ Below w.heap.size w w' := by
  have ht' := bounds_u8 ht
  cases hf : textsB n l p u r with
  | false => exact walk_no f n l p u r ty a b c d m k turn w L 2 (by omega) (fun W hb => enc_long f n l p u r ty a b c d m W hf)
  | true =>
    have q := fun W (hb : Below w.heap.size w W) => enc_yes f n l p u r ty a b c d m W hf (L.grow hb) fit.1 fit.2.1 fit.2.2.1 fit.2.2.2.1 fit.2.2.2.2.1 fit.2.2.2.2.2
    by_cases hn : ∀ j, j < 5 → numFit (numsF a b c d m) j = true
    · refine walk_yes f n l p u r ty a b c d m k turn w L hk ht' _ (encL_length n l p u r ty (numsF a b c d m) hf) (encL_allB n l p u r ty (numsF a b c d m) fit.1) (fun W hb => (q W hb).mono fun e w' h => ?_)
      rcases h with ⟨_, ⟨j, hj, h2⟩, _⟩ | ⟨g, h1, _, h3⟩
      · rw [hn j hj] at h2; cases h2
      · exact ⟨g, h1, h3⟩
    · refine walk_no f n l p u r ty a b c d m k turn w L 20 (by omega) (fun W hb => (q W hb).mono fun e w' h => ?_)
      rcases h with ⟨h1, _, h3⟩ | ⟨g, _, h2, _⟩
      · exact ⟨h1, h3⟩
      · exact absurd h2 hn


theorem lit_i64 {z : Int} (h : (Lit.int .i64 z).wf = true) : -9223372036854775808 ≤ z ∧ z ≤ 9223372036854775807 := by
  have h' : IntKind.i64.min ≤ z ∧ z ≤ IntKind.i64.max := by simpa [Lit.wf] using h
  have e1 : IntKind.i64.min = -9223372036854775808 := by decide
  have e2 : IntKind.i64.max = 9223372036854775807 := by decide
  omega

set_option maxRecDepth 100000 in
theorem lifted (os : Os) (started : os.Started) (H : Type) (enc : TypeId × Value → H) :
    ReturnsInHanded {} Tryd.checked os 6 .any (fun w args => (Rows.headOddSpec.pre enc Tryd.prog Tryd.f6 [] false w args ∧ laidMetH Tryd.prog seven w) ∧ sizedMet enc Tryd.prog Tryd.f6 (OpenSpec.ofChange Rows.headOddSpec) false w args)
      (Rows.headOddSpec.post enc Tryd.prog Tryd.f6 false true false false) := by
  refine returnsInHanded_of_change_and (C := Tryd.checked) (X := fun w _ => laidMetH Tryd.prog seven w) (fun _ _ _ hh h => h.of_heap hh) own started (by kernel_rfl) Tryd.func6
    (ChangeSpec.witness_at (enc := enc) (C := Tryd.checked) (os := os) (X := fun w _ => laidMetH Tryd.prog seven w) false
      (start os)
      #[.agg (hcells 0 ⟨#[]⟩ ⟨#[]⟩ ⟨#[]⟩ ⟨#[]⟩ ⟨#[]⟩ 0 0 0 0 0 0), .int .i64 0, .int .u8 0] 8 rfl (by kernel_rfl) (by kernel_rfl) (by kernel_rfl) (by kernel_rfl) (by kernel_rfl) (laidMet_of_run' 8 (by kernel_rfl) (by kernel_rfl))) ?_
  intro W base args ds gs before hval0 hW _ hsz hL _
  have hval : ∀ (j : Nat) t v, Tryd.f6.params[j]? = some t → args[j]? = some v → Value.okWide Tryd.prog W .any base t v := hval0
  have hW' := hW
  obtain ⟨p, q, hA0, hV0, rfl, hfz, hnd⟩ := hW
  have hA : DataW.TrodAll enc Tryd.prog W 0 (fun _ => true) true Tryd.f6.params.toList args.toList ds p := hA0
  have hV : DataW.TrodVars enc Tryd.prog W (fun _ => true) [] gs q := hV0
  rw [Tryd.params6] at hA hval
  obtain ⟨v0, vs0, d0, ds0, p0, q0, hargs, rfl, rfl, h0, r0⟩ := trodAll_cons hA
  obtain ⟨v1, vs1, d1, ds1, p1, q1, rfl, rfl, rfl, h1, r1⟩ := trodAll_cons r0
  obtain ⟨v2, vs2, d2, ds2, p2, q2, rfl, rfl, rfl, h2, r2⟩ := trodAll_cons r1
  obtain ⟨rfl, rfl, rfl⟩ := trodAll_nil r2
  obtain rfl : args = #[v0, v1, v2] := by cases args; simp_all
  obtain ⟨rfl, rfl⟩ : gs = [] ∧ q = [] := by
    cases gs with
    | nil => exact ⟨rfl, hV⟩
    | cons g r => exact absurd hV (by intro h; cases h)
  have k0 := h0
  have lt0 : ∀ x ∈ p0, x.block < W.heap.size := by obtain ⟨m, hm⟩ := k0; exact DataW.trod_lt m _ _ _ hm
  obtain ⟨f_, n_, l_, p_, u_, r_, ty_, a_, b_, c_, d_, m_, rfl, fit0⟩ := open_hd (hval 0 25 v0 rfl rfl) h0
  obtain ⟨a1, rfl, rfl, rfl, w1⟩ := open_int Tryd.underlying3 (hval 1 3 v1 rfl rfl) h1
  obtain ⟨a2, rfl, rfl, rfl, w2⟩ := open_int Tryd.underlying5 (hval 2 5 v2 rfl rfl) h2
  clear hA0 hval0
  refine (walk f_ n_ l_ p_ u_ r_ ty_ a_ b_ c_ d_ m_ a1 a2 W (met hL) fit0 (lit_i64 w1) w2).mono fun e W' ⟨he, st⟩ => ?_
  subst he
  exact ⟨_, rfl, _, _, _, [], _, [], hW', trodAll_mk1 (shut_bool Tryd.underlying4 _), (trodAll_cons_mk (Below.trod laidOut (by kernel_rfl) (of_decide_eq_true (by kernel_rfl)) k0 st lt0) (trodAll_cons_mk (shut_int Tryd.underlying3 w1) (trodAll_cons_mk (shut_int Tryd.underlying5 w2) trodAll_mk0))), rfl, st.frame _, fun h => by cases h⟩

theorem over : Rows.HeadOddSaid :=
  OpenClaim.holds_of_wide 6 Tryd.f6 rfl rfl rfl rfl rfl rfl rfl ⟨rfl, rfl, rfl, rfl, rfl⟩ rfl rfl rfl rfl rfl (by kernel_rfl) Tryd.func6 (by kernel_rfl)
    (of_decide_eq_true (by kernel_rfl)) (by unfold Func.isWrapper; rw [if_neg (of_decide_eq_false (by kernel_rfl))]; exact ⟨rfl, rfl⟩)
    (fun os started H enc _ => lifted os started H enc)

theorem carded : Rows.HeadOddCardSaid :=
  Claim7.holds_tied_plain_at .later [] _ _ _ _
    over (fun _ h => by cases h) (by kernel_rfl) (fun _ h => by cases h) headOdd_row_tie rfl ⟨rfl, rfl⟩ (by kernel_rfl) rfl
    (fun f fn hf hfn => by
      obtain rfl : f = 6 := Option.some.inj ((show Tryd.prog.funcNamed Tryd.f6.name = some 6 by kernel_rfl).symm.trans hf) |>.symm
      obtain rfl : fn = Tryd.f6 := (Option.some.inj (Tryd.func6.symm.trans hfn)).symm
      refine ⟨by kernel_rfl, fun j t ht => ?_⟩
      have hall : ∀ t ∈ Tryd.f6.params, Tryd.prog.wantsStandIn t = false := by
        rw [Tryd.params6]
        intro t ht
        simp at ht
        rcases ht with rfl | rfl | rfl <;> kernel_rfl
      exact hall t (Array.mem_of_getElem? ht))
    (by kernel_rfl)

end Go.Proofs.YtmholjjicklnhabDoor.headOdd
namespace Go.Proofs.YtmholjjicklnhabDoor
theorem headOdd_holds : Rows.HeadOddCardSaid := headOdd.carded
#print axioms headOdd_holds
end Go.Proofs.YtmholjjicklnhabDoor
