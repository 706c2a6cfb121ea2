/-
  The card of the law HeadOld holds: it returns true for every header and form, the variables that it lists being as the text lays them.
-/
import Derived.Test.YtmholjjicklnhabDoorLaid
import Derived.Test.YtmholjjicklnhabDoorCards
import Derived.Test.YtmholjjicklnhabDoorTie
import Derived.Test.YtmholjjicklnhabDoorRt
import Derived.OpenShut
import Derived.ShutString
import Derived.ChangeOld
import Derived.ProofKit
namespace Go.Proofs.YtmholjjicklnhabDoor.headOld
open Go.ChangeShapes Go.WideShapes Go.RowKit
set_option linter.unusedVariables false
set_option linter.unusedSimpArgs false

/-- no header is written -/
theorem walk_no (f : Int) (n l p u r : ByteArray) (ty a b c d m : Int) (gnu : Bool) (w : World) (L : Laid w) (code : Int) (hcode : ¬ code = 0) (hE : ∀ W, Below w.heap.size w W → Calls Tryd.prog 14 #[.agg #[.int .i64 f, .string n, .string l, .string p, .string u, .string r, .int .u8 ty, .int .i64 a, .int .i64 b, .int .i64 c, .int .i64 d, .int .i64 m]] W fun e w' => e = .returned (.tuple #[.slice none 0 0, .int .i64 code]) ∧ Below W.heap.size W w') :
    Calls Tryd.prog 7 #[.agg #[.int .i64 f, .string n, .string l, .string p, .string u, .string r, .int .u8 ty, .int .i64 a, .int .i64 b, .int .i64 c, .int .i64 d, .int .i64 m], .bool gnu] w fun e w' => e = .returned (.bool true) ∧ Below w.heap.size w w' := by
  have b0 : Below w.heap.size w (w.alloc (.cells #[.int .i64 f, .string n, .string l, .string p, .string u, .string r, .int .u8 ty, .int .i64 a, .int .i64 b, .int .i64 c, .int .i64 d, .int .i64 m] 25)) := (Below.refl _ w).alloc (Nat.le_refl _) _
  have HB0 : Hid (Below w.heap.size w (w.alloc (.cells #[.int .i64 f, .string n, .string l, .string p, .string u, .string r, .int .u8 ty, .int .i64 a, .int .i64 b, .int .i64 c, .int .i64 d, .int .i64 m] 25))) := b0
  have q := reads_ok (w.alloc (.cells #[.int .i64 f, .string n, .string l, .string p, .string u, .string r, .int .u8 ty, .int .i64 a, .int .i64 b, .int .i64 c, .int .i64 d, .int .i64 m] 25)) (L.grow b0)
  have HK : Hid (∀ W1, Below (w.alloc (.cells #[.int .i64 f, .string n, .string l, .string p, .string u, .string r, .int .u8 ty, .int .i64 a, .int .i64 b, .int .i64 c, .int .i64 d, .int .i64 m] 25)).heap.size (w.alloc (.cells #[.int .i64 f, .string n, .string l, .string p, .string u, .string r, .int .u8 ty, .int .i64 a, .int .i64 b, .int .i64 c, .int .i64 d, .int .i64 m] 25)) W1 → ∀ j v, (#[.int .i64 f, .string n, .string l, .string p, .string u, .string r, .int .u8 ty, .int .i64 a, .int .i64 b, .int .i64 c, .int .i64 d, .int .i64 m] : Array Value)[j]? = some v → W1.cell? ⟨w.heap.size, j, none⟩ = some v) := fun W1 hb j v h => cell_grow (new_cell w _ 25 j v h) hb
  clear b0
  have HE : Hid _ := hE
  have hc2 : (code != 0) = true := by simpa using hcode
  clear hE
  go_enter Tryd.func7, Tryd.ntmps7
  go_wp2_with (first | (go_at_call 9; refine q.mono ?_; rintro e w1 ⟨rfl, hb1⟩; have x0 := HK.out _ hb1 0 _ rfl; have x1 := HK.out _ hb1 1 _ rfl; have x2 := HK.out _ hb1 2 _ rfl; have x3 := HK.out _ hb1 3 _ rfl; have x4 := HK.out _ hb1 4 _ rfl; have x5 := HK.out _ hb1 5 _ rfl; have x6 := HK.out _ hb1 6 _ rfl; have x7 := HK.out _ hb1 7 _ rfl; have x8 := HK.out _ hb1 8 _ rfl; have x9 := HK.out _ hb1 9 _ rfl; have x10 := HK.out _ hb1 10 _ rfl; have x11 := HK.out _ hb1 11 _ rfl; have HB1 : Hid (Below w.heap.size w w1) := HB0.out.trans (hb1.mono HB0.out.size)) | (go_at_call 14; refine (HE.out _ HB1.out).mono ?_; rintro e w2 ⟨rfl, b2⟩))
  all_goals go_ret
  all_goals exact ⟨by first | rfl | simp, HB1.out.trans (b2.mono HB1.out.size)⟩

/-- the header as it is read -/
def oldH (gnu : Bool) (n l p u r : ByteArray) (ty a b c d m : Int) : Array Value := #[.int .i64 (if gnu then 2 else 0), .string n, .string l, .string ⟨#[]⟩, .string (if gnu then u else ⟨#[]⟩), .string (if gnu then r else ⟨#[]⟩), .int .u8 ty, .int .i64 a, .int .i64 b, .int .i64 c, .int .i64 d, .int .i64 m]

def magicS (gnu : Bool) : ByteArray := if gnu then ⟨#[117, 115, 116, 97, 114, 32, 32, 0]⟩ else ⟨#[0, 0, 0, 0, 0, 0, 0, 0]⟩

theorem old_of (gnu : Bool) (n l p u r : ByteArray) (ty a b c d m : Int) (hf : textsB n l p u r = true) (hn : ∀ k, k < 5 → numFit (numsF a b c d m) k = true) (fit : rng a ∧ rng b ∧ rng c ∧ rng d ∧ rng m) (e : Ending)
    (h : DecNo (sealL (splice (sealL (encL n l p u r ty (numsF a b c d m))) 257 (s8 (magicS gnu)))) e ∨ DecYes (sealL (splice (sealL (encL n l p u r ty (numsF a b c d m))) 257 (s8 (magicS gnu)))) e) :
    e = .returned (.tuple #[.agg (oldH gnu n l p u r ty a b c d m), .int .i64 0]) := by
  have hM : (s8 (magicS gnu)).length = 8 := by cases gnu <;> rfl
  obtain ⟨H, hm⟩ := hdOf_magic n l p u r ty (numsF a b c d m) hf hn (s8 (magicS gnu)) hM
  generalize sealL (splice (sealL (encL n l p u r ty (numsF a b c d m))) 257 (s8 (magicS gnu))) = z at *
  have hr : ∀ j, j < 5 → numsF a b c d m j ≤ 9223372036854775807 := by
    intro j hj
    unfold rng at fit
    rcases (show j = 0 ∨ j = 1 ∨ j = 2 ∨ j = 3 ∨ j = 4 by omega) with rfl | rfl | rfl | rfl | rfl <;> simp only [numsF] <;> omega
  have hform : formL z = if gnu then 2 else 0 := by
    unfold formL
    rw [hm]
    cases gnu <;> decide
  rcases h with ⟨k, hk, _, hne, _⟩ | ⟨_, rfl⟩
  · exact absurd (H.eN hr k hk).1 hne
  · have h0 := (H.eN hr 0 (by omega)).2
    have h1 := (H.eN hr 1 (by omega)).2
    have h2 := (H.eN hr 2 (by omega)).2
    have h3 := (H.eN hr 3 (by omega)).2
    have h4 := (H.eN hr 4 (by omega)).2
    unfold hdF isU notOld oldH
    rw [hform, H.name, H.link, H.user, H.group, H.type, h0, h1, h2, h3, h4]
    cases gnu <;> simp [numsF]

set_option maxRecDepth 100000 in
set_option maxHeartbeats 4000000 in
theorem walk_yes (f : Int) (n l p u r : ByteArray) (ty a b c d m : Int) (gnu : Bool) (w : World) (L : Laid w) (zs : List Int) (hl : zs.length = 512) (hb : AllB zs)
    (hE : ∀ W, Below w.heap.size w W → Calls Tryd.prog 14 #[.agg #[.int .i64 f, .string n, .string l, .string p, .string u, .string r, .int .u8 ty, .int .i64 a, .int .i64 b, .int .i64 c, .int .i64 d, .int .i64 m]] W fun e w' => ∃ g, e = .returned (.tuple #[.slice (some ⟨g, 0, none⟩) 512 512, .int .i64 0]) ∧ Own W w' g (sealL zs))
    (hD : ∀ e, DecNo (sealL (splice (sealL zs) 257 (s8 (magicS gnu)))) e ∨ DecYes (sealL (splice (sealL zs) 257 (s8 (magicS gnu)))) e → e = .returned (.tuple #[.agg (oldH gnu n l p u r ty a b c d m), .int .i64 0])) :
    Calls Tryd.prog 7 #[.agg #[.int .i64 f, .string n, .string l, .string p, .string u, .string r, .int .u8 ty, .int .i64 a, .int .i64 b, .int .i64 c, .int .i64 d, .int .i64 m], .bool gnu] w fun e w' => e = .returned (.bool true) ∧ Below w.heap.size w w' := by
  have b0 : Below w.heap.size w (w.alloc (.cells #[.int .i64 f, .string n, .string l, .string p, .string u, .string r, .int .u8 ty, .int .i64 a, .int .i64 b, .int .i64 c, .int .i64 d, .int .i64 m] 25)) := (Below.refl _ w).alloc (Nat.le_refl _) _
  have HB0 : Hid (Below w.heap.size w (w.alloc (.cells #[.int .i64 f, .string n, .string l, .string p, .string u, .string r, .int .u8 ty, .int .i64 a, .int .i64 b, .int .i64 c, .int .i64 d, .int .i64 m] 25))) := b0
  have q := reads_ok (w.alloc (.cells #[.int .i64 f, .string n, .string l, .string p, .string u, .string r, .int .u8 ty, .int .i64 a, .int .i64 b, .int .i64 c, .int .i64 d, .int .i64 m] 25)) (L.grow b0)
  have HK : Hid (∀ W1, Below (w.alloc (.cells #[.int .i64 f, .string n, .string l, .string p, .string u, .string r, .int .u8 ty, .int .i64 a, .int .i64 b, .int .i64 c, .int .i64 d, .int .i64 m] 25)).heap.size (w.alloc (.cells #[.int .i64 f, .string n, .string l, .string p, .string u, .string r, .int .u8 ty, .int .i64 a, .int .i64 b, .int .i64 c, .int .i64 d, .int .i64 m] 25)) W1 → ∀ j v, (#[.int .i64 f, .string n, .string l, .string p, .string u, .string r, .int .u8 ty, .int .i64 a, .int .i64 b, .int .i64 c, .int .i64 d, .int .i64 m] : Array Value)[j]? = some v → W1.cell? ⟨w.heap.size, j, none⟩ = some v) := fun W1 hb j v h => cell_grow (new_cell w _ 25 j v h) hb
  clear b0
  have HE : Hid _ := hE
  have HL : Hid ((sealL zs).length = 512) := sealL_length zs hl
  have HA : Hid (AllB (sealL zs)) := sealL_allB zs hb
  clear hE hl hb
  generalize sealL zs = Z at *
  have h8 : (s8 (magicS gnu)).length = 8 := by cases gnu <;> rfl
  have HL3 : Hid ((splice Z 257 (s8 (magicS gnu))).length = 512) := by show _ = _; rw [length_splice _ _ _ (by rw [HL.out]; omega), HL.out]
  have HA3 : Hid (AllB (splice Z 257 (s8 (magicS gnu)))) := allB_splice _ _ _ HA.out (s8_allB _)
  have HL4 : Hid ((sealL (splice Z 257 (s8 (magicS gnu)))).length = 512) := sealL_length _ HL3.out
  have HA4 : Hid (AllB (sealL (splice Z 257 (s8 (magicS gnu))))) := sealL_allB _ HA3.out
  have HR4 : Hid (rightB (sealL (splice Z 257 (s8 (magicS gnu)))) = true) := sealL_right _ HL3.out HA3.out
  have HD : Hid (∀ e, DecNo (sealL (splice Z 257 (s8 (magicS gnu)))) e ∨ DecYes (sealL (splice Z 257 (s8 (magicS gnu)))) e → e = .returned (.tuple #[.agg (oldH gnu n l p u r ty a b c d m), .int .i64 0])) := hD
  clear hD h8
  unfold oldH at HD
  cases gnu
  · simp only [magicS, if_false, Bool.false_eq_true] at HL3 HA3 HL4 HA4 HR4 HD
    go_enter Tryd.func7, Tryd.ntmps7
    go_wp2_with (first | (go_at_call 9; refine q.mono ?_; rintro e w1 ⟨rfl, hb1⟩; have x0 := HK.out _ hb1 0 _ rfl; have x1 := HK.out _ hb1 1 _ rfl; have x2 := HK.out _ hb1 2 _ rfl; have x3 := HK.out _ hb1 3 _ rfl; have x4 := HK.out _ hb1 4 _ rfl; have x5 := HK.out _ hb1 5 _ rfl; have x6 := HK.out _ hb1 6 _ rfl; have x7 := HK.out _ hb1 7 _ rfl; have x8 := HK.out _ hb1 8 _ rfl; have x9 := HK.out _ hb1 9 _ rfl; have x10 := HK.out _ hb1 10 _ rfl; have x11 := HK.out _ hb1 11 _ rfl; have HB1 : Hid (Below w.heap.size w w1) := HB0.out.trans (hb1.mono HB0.out.size)) | (go_at_call 14; refine (HE.out _ HB1.out).mono ?_; rintro e w2 ⟨g, rfl, O2⟩; clear x0; clear x1; clear x2; clear x3; clear x4; clear x5; clear x6; clear x7; clear x8; clear x9; clear x10; clear x11; obtain ⟨w3, c3, O3⟩ := copy_own_str O2 257 255 255 ⟨#[0, 0, 0, 0, 0, 0, 0, 0]⟩ (by show 8 ≤ 255; omega) (by rw [HL.out]; show 257 + 8 ≤ 512; omega); replace c3 := c3 3; have q4 := seal_yes ⟨g, 0, none⟩ 512 _ w3 HA3 HL3 O3.src; have HO3 : Hid _ := O3; clear O2 O3) | (go_at_call 20; refine q4.mono ?_; rintro e w4 ⟨g4, rfl, O4⟩; have HB4 : Hid (Below (w.alloc (.cells #[.int .i64 f, .string n, .string l, .string p, .string u, .string r, .int .u8 ty, .int .i64 a, .int .i64 b, .int .i64 c, .int .i64 d, .int .i64 m] 25)).heap.size (w.alloc (.cells #[.int .i64 f, .string n, .string l, .string p, .string u, .string r, .int .u8 ty, .int .i64 a, .int .i64 b, .int .i64 c, .int .i64 d, .int .i64 m] 25)) w4) := (hb1.trans (HO3.out.below.mono hb1.size)).trans (O4.below.mono (hb1.trans (HO3.out.below.mono hb1.size)).size); have q5 := dec_yes ⟨g4, 0, none⟩ 512 _ w4 HA4 HL4 (by omega) (by omega) O4.src HR4.out ((L.grow HB0.out).grow HB4.out); clear O4 q4) | (go_at_call 10; refine q5.mono ?_; rintro e w5 ⟨h5, b5⟩; obtain rfl := HD.out e h5; have HB5 : Hid (Below (w.alloc (.cells #[.int .i64 f, .string n, .string l, .string p, .string u, .string r, .int .u8 ty, .int .i64 a, .int .i64 b, .int .i64 c, .int .i64 d, .int .i64 m] 25)).heap.size (w.alloc (.cells #[.int .i64 f, .string n, .string l, .string p, .string u, .string r, .int .u8 ty, .int .i64 a, .int .i64 b, .int .i64 c, .int .i64 d, .int .i64 m] 25)) w5) := HB4.out.trans (b5.mono HB4.out.size); have y0 := HK.out _ HB5.out 0 _ rfl; have y1 := HK.out _ HB5.out 1 _ rfl; have y2 := HK.out _ HB5.out 2 _ rfl; have y3 := HK.out _ HB5.out 3 _ rfl; have y4 := HK.out _ HB5.out 4 _ rfl; have y5 := HK.out _ HB5.out 5 _ rfl; have y6 := HK.out _ HB5.out 6 _ rfl; have y7 := HK.out _ HB5.out 7 _ rfl; have y8 := HK.out _ HB5.out 8 _ rfl; have y9 := HK.out _ HB5.out 9 _ rfl; have y10 := HK.out _ HB5.out 10 _ rfl; have y11 := HK.out _ HB5.out 11 _ rfl; have hz5 : w.heap.size < w5.heap.size := (by have := HB5.out.size; simp at this; omega); clear q5 h5))
    all_goals go_ret
    all_goals exact ⟨by first | rfl | simp, by have hB := HB0.out.trans (HB5.out.mono HB0.out.size); exact (hB.alloc hB.size _).alloc (hB.alloc hB.size _).size _⟩
  · simp only [magicS, if_true] at HL3 HA3 HL4 HA4 HR4 HD
    go_enter Tryd.func7, Tryd.ntmps7
    go_wp2_with (first | (go_at_call 9; refine q.mono ?_; rintro e w1 ⟨rfl, hb1⟩; have x0 := HK.out _ hb1 0 _ rfl; have x1 := HK.out _ hb1 1 _ rfl; have x2 := HK.out _ hb1 2 _ rfl; have x3 := HK.out _ hb1 3 _ rfl; have x4 := HK.out _ hb1 4 _ rfl; have x5 := HK.out _ hb1 5 _ rfl; have x6 := HK.out _ hb1 6 _ rfl; have x7 := HK.out _ hb1 7 _ rfl; have x8 := HK.out _ hb1 8 _ rfl; have x9 := HK.out _ hb1 9 _ rfl; have x10 := HK.out _ hb1 10 _ rfl; have x11 := HK.out _ hb1 11 _ rfl; have HB1 : Hid (Below w.heap.size w w1) := HB0.out.trans (hb1.mono HB0.out.size)) | (go_at_call 14; refine (HE.out _ HB1.out).mono ?_; rintro e w2 ⟨g, rfl, O2⟩; clear x0; clear x1; clear x2; clear x3; clear x4; clear x5; clear x6; clear x7; clear x8; clear x9; clear x10; clear x11; obtain ⟨w3, c3, O3⟩ := copy_own_str O2 257 255 255 ⟨#[117, 115, 116, 97, 114, 32, 32, 0]⟩ (by show 8 ≤ 255; omega) (by rw [HL.out]; show 257 + 8 ≤ 512; omega); replace c3 := c3 3; have q4 := seal_yes ⟨g, 0, none⟩ 512 _ w3 HA3 HL3 O3.src; have HO3 : Hid _ := O3; clear O2 O3) | (go_at_call 20; refine q4.mono ?_; rintro e w4 ⟨g4, rfl, O4⟩; have HB4 : Hid (Below (w.alloc (.cells #[.int .i64 f, .string n, .string l, .string p, .string u, .string r, .int .u8 ty, .int .i64 a, .int .i64 b, .int .i64 c, .int .i64 d, .int .i64 m] 25)).heap.size (w.alloc (.cells #[.int .i64 f, .string n, .string l, .string p, .string u, .string r, .int .u8 ty, .int .i64 a, .int .i64 b, .int .i64 c, .int .i64 d, .int .i64 m] 25)) w4) := (hb1.trans (HO3.out.below.mono hb1.size)).trans (O4.below.mono (hb1.trans (HO3.out.below.mono hb1.size)).size); have q5 := dec_yes ⟨g4, 0, none⟩ 512 _ w4 HA4 HL4 (by omega) (by omega) O4.src HR4.out ((L.grow HB0.out).grow HB4.out); clear O4 q4) | (go_at_call 10; refine q5.mono ?_; rintro e w5 ⟨h5, b5⟩; obtain rfl := HD.out e h5; have HB5 : Hid (Below (w.alloc (.cells #[.int .i64 f, .string n, .string l, .string p, .string u, .string r, .int .u8 ty, .int .i64 a, .int .i64 b, .int .i64 c, .int .i64 d, .int .i64 m] 25)).heap.size (w.alloc (.cells #[.int .i64 f, .string n, .string l, .string p, .string u, .string r, .int .u8 ty, .int .i64 a, .int .i64 b, .int .i64 c, .int .i64 d, .int .i64 m] 25)) w5) := HB4.out.trans (b5.mono HB4.out.size); have y0 := HK.out _ HB5.out 0 _ rfl; have y1 := HK.out _ HB5.out 1 _ rfl; have y2 := HK.out _ HB5.out 2 _ rfl; have y3 := HK.out _ HB5.out 3 _ rfl; have y4 := HK.out _ HB5.out 4 _ rfl; have y5 := HK.out _ HB5.out 5 _ rfl; have y6 := HK.out _ HB5.out 6 _ rfl; have y7 := HK.out _ HB5.out 7 _ rfl; have y8 := HK.out _ HB5.out 8 _ rfl; have y9 := HK.out _ HB5.out 9 _ rfl; have y10 := HK.out _ HB5.out 10 _ rfl; have y11 := HK.out _ HB5.out 11 _ rfl; have hz5 : w.heap.size < w5.heap.size := (by have := HB5.out.size; simp at this; omega); clear q5 h5))
    all_goals go_ret
    all_goals exact ⟨by first | rfl | simp, by have hB := HB0.out.trans (HB5.out.mono HB0.out.size); exact (hB.alloc hB.size _).alloc (hB.alloc hB.size _).size _⟩

theorem walk (f : Int) (n l p u r : ByteArray) (ty a b c d m : Int) (gnu : Bool) (w : World) (L : Laid w) (fit : (0 ≤ ty ∧ ty ≤ 255) ∧ rng a ∧ rng b ∧ rng c ∧ rng d ∧ rng m) :
    Calls Tryd.prog 7 #[.agg (hcells f n l p u r ty a b c d m), .bool gnu] w fun e w' => e = .returned (.bool true) ∧ Below w.heap.size w w' := by
  cases hf : textsB n l p u r with
  | false => exact walk_no f n l p u r ty a b c d m gnu w L 2 (by omega) (fun W hb => enc_long f n l p u r ty a b c d m W hf)
  | true =>
    have q := fun W (hb : Below w.heap.size w W) => enc_yes f n l p u r ty a b c d m W hf (L.grow hb) fit.1 fit.2.1 fit.2.2.1 fit.2.2.2.1 fit.2.2.2.2.1 fit.2.2.2.2.2
    by_cases hn : ∀ j, j < 5 → numFit (numsF a b c d m) j = true
    · refine walk_yes f n l p u r ty a b c d m gnu w L _ (encL_length n l p u r ty (numsF a b c d m) hf) (encL_allB n l p u r ty (numsF a b c d m) fit.1) (fun W hb => (q W hb).mono fun e w' h => ?_) (old_of gnu n l p u r ty a b c d m hf hn fit.2)
      rcases h with ⟨_, ⟨j, hj, h2⟩, _⟩ | ⟨g, h1, _, h3⟩
      · rw [hn j hj] at h2; cases h2
      · exact ⟨g, h1, h3⟩
    · refine walk_no f n l p u r ty a b c d m gnu w L 20 (by omega) (fun W hb => (q W hb).mono fun e w' h => ?_)
      rcases h with ⟨h1, _, h3⟩ | ⟨g, _, h2, _⟩
      · exact ⟨h1, h3⟩
      · exact absurd h2 hn


theorem lit_i64 {z : Int} (h : (Lit.int .i64 z).wf = true) : -9223372036854775808 ≤ z ∧ z ≤ 9223372036854775807 := by
  have h' : IntKind.i64.min ≤ z ∧ z ≤ IntKind.i64.max := by simpa [Lit.wf] using h
  have e1 : IntKind.i64.min = -9223372036854775808 := by decide
  have e2 : IntKind.i64.max = 9223372036854775807 := by decide
  omega

set_option maxRecDepth 100000 in
theorem lifted (os : Os) (started : os.Started) (H : Type) (enc : TypeId × Value → H) :
    ReturnsInHanded {} Tryd.checked os 7 .any (fun w args => (Rows.headOldSpec.pre enc Tryd.prog Tryd.f7 [] false w args ∧ laidMetH Tryd.prog seven w) ∧ sizedMet enc Tryd.prog Tryd.f7 (OpenSpec.ofChange Rows.headOldSpec) false w args)
      (Rows.headOldSpec.post enc Tryd.prog Tryd.f7 false true false false) := by
  refine returnsInHanded_of_change_and (C := Tryd.checked) (X := fun w _ => laidMetH Tryd.prog seven w) (fun _ _ _ hh h => h.of_heap hh) own started (by kernel_rfl) Tryd.func7
    (ChangeSpec.witness_at (enc := enc) (C := Tryd.checked) (os := os) (X := fun w _ => laidMetH Tryd.prog seven w) false
      (start os)
      #[.agg (hcells 0 ⟨#[]⟩ ⟨#[]⟩ ⟨#[]⟩ ⟨#[]⟩ ⟨#[]⟩ 0 0 0 0 0 0), .bool false] 8 rfl (by kernel_rfl) (by kernel_rfl) (by kernel_rfl) (by kernel_rfl) (by kernel_rfl) (laidMet_of_run' 8 (by kernel_rfl) (by kernel_rfl))) ?_
  intro W base args ds gs before hval0 hW _ hsz hL _
  have hval : ∀ (j : Nat) t v, Tryd.f7.params[j]? = some t → args[j]? = some v → Value.okWide Tryd.prog W .any base t v := hval0
  have hW' := hW
  obtain ⟨p, q, hA0, hV0, rfl, hfz, hnd⟩ := hW
  have hA : DataW.TrodAll enc Tryd.prog W 0 (fun _ => true) true Tryd.f7.params.toList args.toList ds p := hA0
  have hV : DataW.TrodVars enc Tryd.prog W (fun _ => true) [] gs q := hV0
  rw [Tryd.params7] at hA hval
  obtain ⟨v0, vs0, d0, ds0, p0, q0, hargs, rfl, rfl, h0, r0⟩ := trodAll_cons hA
  obtain ⟨v1, vs1, d1, ds1, p1, q1, rfl, rfl, rfl, h1, r1⟩ := trodAll_cons r0
  obtain ⟨rfl, rfl, rfl⟩ := trodAll_nil r1
  obtain rfl : args = #[v0, v1] := by cases args; simp_all
  obtain ⟨rfl, rfl⟩ : gs = [] ∧ q = [] := by
    cases gs with
    | nil => exact ⟨rfl, hV⟩
    | cons g r => exact absurd hV (by intro h; cases h)
  have k0 := h0
  have lt0 : ∀ x ∈ p0, x.block < W.heap.size := by obtain ⟨m, hm⟩ := k0; exact DataW.trod_lt m _ _ _ hm
  obtain ⟨f_, n_, l_, p_, u_, r_, ty_, a_, b_, c_, d_, m_, rfl, fit0⟩ := open_hd (hval 0 25 v0 rfl rfl) h0
  obtain ⟨a1, rfl, rfl, rfl⟩ := open_bool Tryd.underlying4 (hval 1 4 v1 rfl rfl) h1
  clear hA0 hval0
  refine (walk f_ n_ l_ p_ u_ r_ ty_ a_ b_ c_ d_ m_ a1 W (met hL) fit0).mono fun e W' ⟨he, st⟩ => ?_
  subst he
  exact ⟨_, rfl, _, _, _, [], _, [], hW', trodAll_mk1 (shut_bool Tryd.underlying4 _), (trodAll_cons_mk (Below.trod laidOut (by kernel_rfl) (of_decide_eq_true (by kernel_rfl)) k0 st lt0) (trodAll_cons_mk (shut_bool Tryd.underlying4 _) trodAll_mk0)), rfl, st.frame _, fun h => by cases h⟩

theorem over : Rows.HeadOldSaid :=
  OpenClaim.holds_of_wide 7 Tryd.f7 rfl rfl rfl rfl rfl rfl rfl ⟨rfl, rfl, rfl, rfl, rfl⟩ rfl rfl rfl rfl rfl (by kernel_rfl) Tryd.func7 (by kernel_rfl)
    (of_decide_eq_true (by kernel_rfl)) (by unfold Func.isWrapper; rw [if_neg (of_decide_eq_false (by kernel_rfl))]; exact ⟨rfl, rfl⟩)
    (fun os started H enc _ => lifted os started H enc)

theorem carded : Rows.HeadOldCardSaid :=
  Claim7.holds_tied_plain_at .later [] _ _ _ _
    over (fun _ h => by cases h) (by kernel_rfl) (fun _ h => by cases h) headOld_row_tie rfl ⟨rfl, rfl⟩ (by kernel_rfl) rfl
    (fun f fn hf hfn => by
      obtain rfl : f = 7 := Option.some.inj ((show Tryd.prog.funcNamed Tryd.f7.name = some 7 by kernel_rfl).symm.trans hf) |>.symm
      obtain rfl : fn = Tryd.f7 := (Option.some.inj (Tryd.func7.symm.trans hfn)).symm
      refine ⟨by kernel_rfl, fun j t ht => ?_⟩
      have hall : ∀ t ∈ Tryd.f7.params, Tryd.prog.wantsStandIn t = false := by
        rw [Tryd.params7]
        intro t ht
        simp at ht
        rcases ht with rfl | rfl <;> kernel_rfl
      exact hall t (Array.mem_of_getElem? ht))
    (by kernel_rfl)

end Go.Proofs.YtmholjjicklnhabDoor.headOld
namespace Go.Proofs.YtmholjjicklnhabDoor
theorem headOld_holds : Rows.HeadOldCardSaid := headOld.carded
#print axioms headOld_holds
end Go.Proofs.YtmholjjicklnhabDoor
