/-
  The card of the law HeadWrites holds: it returns true for every header, the variables that it lists being as the text lays them.
-/
import Derived.Test.YtmholjjicklnhabDoorLaid
import Derived.Test.YtmholjjicklnhabDoorCards
import Derived.Test.YtmholjjicklnhabDoorTie
import Derived.Test.YtmholjjicklnhabDoorRe
import Derived.OpenShut
import Derived.ShutString
import Derived.ChangeOld
import Derived.ProofKit
namespace Go.Proofs.YtmholjjicklnhabDoor.headWrites
open Go.ChangeShapes Go.WideShapes Go.RowKit
set_option linter.unusedVariables false
set_option linter.unusedSimpArgs false


theorem new_of (n l p u r : ByteArray) (ty a b c d m : Int) (hf : textsB n l p u r = true) (hn : ∀ k, k < 5 → numFit (numsF a b c d m) k = true) (fit : rng a ∧ rng b ∧ rng c ∧ rng d ∧ rng m) (e : Ending)
    (h : DecNo (sealL (encL n l p u r ty (numsF a b c d m))) e ∨ DecYes (sealL (encL n l p u r ty (numsF a b c d m))) e) :
    e = .returned (.tuple #[.agg #[.int .i64 1, .string n, .string l, .string p, .string u, .string r, .int .u8 ty, .int .i64 a, .int .i64 b, .int .i64 c, .int .i64 d, .int .i64 m], .int .i64 0]) := by
  have H := hdOf_enc n l p u r ty (numsF a b c d m) hf hn
  have hm := enc_magic n l p u r ty (numsF a b c d m) hf
  generalize sealL (encL n l p u r ty (numsF a b c d m)) = z at *
  have hr : ∀ j, j < 5 → numsF a b c d m j ≤ 9223372036854775807 := by
    intro j hj
    unfold rng at fit
    rcases (show j = 0 ∨ j = 1 ∨ j = 2 ∨ j = 3 ∨ j = 4 by omega) with rfl | rfl | rfl | rfl | rfl <;> simp only [numsF] <;> omega
  have hform : formL z = 1 := by
    unfold formL
    rw [hm]
    rfl
  rcases h with ⟨k, hk, _, hne, _⟩ | ⟨_, rfl⟩
  · exact absurd (H.eN hr k hk).1 hne
  · have h0 := (H.eN hr 0 (by omega)).2
    have h1 := (H.eN hr 1 (by omega)).2
    have h2 := (H.eN hr 2 (by omega)).2
    have h3 := (H.eN hr 3 (by omega)).2
    have h4 := (H.eN hr 4 (by omega)).2
    unfold hdF isU notOld
    rw [hform, H.name, H.link, H.prefx, H.user, H.group, H.type, h0, h1, h2, h3, h4]
    simp [numsF]

set_option maxRecDepth 100000 in
set_option maxHeartbeats 4000000 in
theorem walk_no (f : Int) (n l p u r : ByteArray) (ty a b c d m : Int) (w : World) (L : Laid w) (code : Int) (hcode : ¬ code = 0)
    (hE : ∀ W, Below w.heap.size w W → Calls Tryd.prog 14 #[.agg #[.int .i64 f, .string n, .string l, .string p, .string u, .string r, .int .u8 ty, .int .i64 a, .int .i64 b, .int .i64 c, .int .i64 d, .int .i64 m]] W fun e w' => e = .returned (.tuple #[.slice none 0 0, .int .i64 code]) ∧ Below W.heap.size W w')
    (hR : ∀ W, Calls Tryd.prog 15 #[.agg #[.int .i64 f, .int .u8 ty, .string n, .string l, .string p, .string u, .string r, .int .i64 a, .int .i64 b, .int .i64 c, .int .i64 d, .int .i64 m]] W fun e w' => e = .returned (.tuple #[.string ⟨#[]⟩, .int .i64 code]) ∧ Below W.heap.size W w') :
    Calls Tryd.prog 4 #[.agg #[.int .i64 f, .string n, .string l, .string p, .string u, .string r, .int .u8 ty, .int .i64 a, .int .i64 b, .int .i64 c, .int .i64 d, .int .i64 m]] w fun e w' => e = .returned (.bool true) ∧ Below w.heap.size w w' := by
  have b0 : Below w.heap.size w (w.alloc (.cells #[.int .i64 f, .string n, .string l, .string p, .string u, .string r, .int .u8 ty, .int .i64 a, .int .i64 b, .int .i64 c, .int .i64 d, .int .i64 m] 25)) := (Below.refl _ w).alloc (Nat.le_refl _) _
  have HB0 : Hid (Below w.heap.size w (w.alloc (.cells #[.int .i64 f, .string n, .string l, .string p, .string u, .string r, .int .u8 ty, .int .i64 a, .int .i64 b, .int .i64 c, .int .i64 d, .int .i64 m] 25))) := b0
  have q := reads_ok (w.alloc (.cells #[.int .i64 f, .string n, .string l, .string p, .string u, .string r, .int .u8 ty, .int .i64 a, .int .i64 b, .int .i64 c, .int .i64 d, .int .i64 m] 25)) (L.grow b0)
  have HK : Hid (∀ W1, Below (w.alloc (.cells #[.int .i64 f, .string n, .string l, .string p, .string u, .string r, .int .u8 ty, .int .i64 a, .int .i64 b, .int .i64 c, .int .i64 d, .int .i64 m] 25)).heap.size (w.alloc (.cells #[.int .i64 f, .string n, .string l, .string p, .string u, .string r, .int .u8 ty, .int .i64 a, .int .i64 b, .int .i64 c, .int .i64 d, .int .i64 m] 25)) W1 → ∀ j v, (#[.int .i64 f, .string n, .string l, .string p, .string u, .string r, .int .u8 ty, .int .i64 a, .int .i64 b, .int .i64 c, .int .i64 d, .int .i64 m] : Array Value)[j]? = some v → W1.cell? ⟨w.heap.size, j, none⟩ = some v) := fun W1 hb j v h => cell_grow (new_cell w _ 25 j v h) hb
  clear b0
  have HE : Hid _ := hE
  have HR : Hid _ := hR
  have hc2 : (code != 0) = true := by simpa using hcode
  have hcv : ∀ W : World, (convert 22 9 (.slice none 0 0)).run Tryd.prog W = .ok (.string ⟨#[]⟩) W := fun W => conv_src W none [] 0 0 rfl (fun h => by simp at h)
  clear hE hR
  go_enter Tryd.func4, Tryd.ntmps4
  go_wp2_with (first | (go_at_call 9; refine q.mono ?_; rintro e w1 ⟨rfl, hb1⟩; have x0 := HK.out _ hb1 0 _ rfl; have x1 := HK.out _ hb1 1 _ rfl; have x2 := HK.out _ hb1 2 _ rfl; have x3 := HK.out _ hb1 3 _ rfl; have x4 := HK.out _ hb1 4 _ rfl; have x5 := HK.out _ hb1 5 _ rfl; have x6 := HK.out _ hb1 6 _ rfl; have x7 := HK.out _ hb1 7 _ rfl; have x8 := HK.out _ hb1 8 _ rfl; have x9 := HK.out _ hb1 9 _ rfl; have x10 := HK.out _ hb1 10 _ rfl; have x11 := HK.out _ hb1 11 _ rfl; have HB1 : Hid (Below (w.alloc (.cells #[.int .i64 f, .string n, .string l, .string p, .string u, .string r, .int .u8 ty, .int .i64 a, .int .i64 b, .int .i64 c, .int .i64 d, .int .i64 m] 25)).heap.size (w.alloc (.cells #[.int .i64 f, .string n, .string l, .string p, .string u, .string r, .int .u8 ty, .int .i64 a, .int .i64 b, .int .i64 c, .int .i64 d, .int .i64 m] 25)) w1) := hb1; have HW1 : Hid (Below w.heap.size w w1) := HB0.out.trans (hb1.mono HB0.out.size); clear hb1) | (go_at_call 14; refine (HE.out _ HW1.out).mono ?_; rintro e w2 ⟨rfl, b2⟩; clear x0 x1 x2 x3 x4 x5 x6 x7 x8 x9 x10 x11; have HB2 : Hid (Below (w.alloc (.cells #[.int .i64 f, .string n, .string l, .string p, .string u, .string r, .int .u8 ty, .int .i64 a, .int .i64 b, .int .i64 c, .int .i64 d, .int .i64 m] 25)).heap.size (w.alloc (.cells #[.int .i64 f, .string n, .string l, .string p, .string u, .string r, .int .u8 ty, .int .i64 a, .int .i64 b, .int .i64 c, .int .i64 d, .int .i64 m] 25)) w2) := HB1.out.trans (b2.mono HB1.out.size); have y0 := HK.out _ HB2.out 0 _ rfl; have y1 := HK.out _ HB2.out 1 _ rfl; have y2 := HK.out _ HB2.out 2 _ rfl; have y3 := HK.out _ HB2.out 3 _ rfl; have y4 := HK.out _ HB2.out 4 _ rfl; have y5 := HK.out _ HB2.out 5 _ rfl; have y6 := HK.out _ HB2.out 6 _ rfl; have y7 := HK.out _ HB2.out 7 _ rfl; have y8 := HK.out _ HB2.out 8 _ rfl; have y9 := HK.out _ HB2.out 9 _ rfl; have y10 := HK.out _ HB2.out 10 _ rfl; have y11 := HK.out _ HB2.out 11 _ rfl; clear b2) | (go_at_call 12; refine (plainh_w _ _ _ _ _ _ _ _ _ _ _ _ _).mono ?_; rintro e w3 ⟨rfl, b3⟩; have HB3 : Hid (Below (w.alloc (.cells #[.int .i64 f, .string n, .string l, .string p, .string u, .string r, .int .u8 ty, .int .i64 a, .int .i64 b, .int .i64 c, .int .i64 d, .int .i64 m] 25)).heap.size (w.alloc (.cells #[.int .i64 f, .string n, .string l, .string p, .string u, .string r, .int .u8 ty, .int .i64 a, .int .i64 b, .int .i64 c, .int .i64 d, .int .i64 m] 25)) w3) := HB2.out.trans (b3.mono HB2.out.size); have HG3 : Hid (Below w2.heap.size w2 w3) := b3; clear b3) | (go_at_call 15; refine (HR.out _).mono ?_; rintro e w4 ⟨rfl, b4⟩; have HB4 : Hid (Below (w.alloc (.cells #[.int .i64 f, .string n, .string l, .string p, .string u, .string r, .int .u8 ty, .int .i64 a, .int .i64 b, .int .i64 c, .int .i64 d, .int .i64 m] 25)).heap.size (w.alloc (.cells #[.int .i64 f, .string n, .string l, .string p, .string u, .string r, .int .u8 ty, .int .i64 a, .int .i64 b, .int .i64 c, .int .i64 d, .int .i64 m] 25)) w4) := HB3.out.trans (b4.mono HB3.out.size); have HG4 : Hid (Below w2.heap.size w2 w4) := HG3.out.trans (b4.mono HG3.out.size); clear b4; skip))
  all_goals go_ret
  all_goals first | exact ⟨by first | rfl | simp, HB0.out.trans (HB4.out.mono HB0.out.size)⟩ | exact ⟨by first | rfl | simp, HW1.out⟩

set_option maxRecDepth 100000 in
set_option maxHeartbeats 4000000 in
theorem walk_yes (f : Int) (n l p u r : ByteArray) (ty a b c d m : Int) (w : World) (L : Laid w) (Z : List Int) (hl : Z.length = 512) (hb : AllB Z) (hr : rightB Z = true)
    (hE : ∀ W, Below w.heap.size w W → Calls Tryd.prog 14 #[.agg #[.int .i64 f, .string n, .string l, .string p, .string u, .string r, .int .u8 ty, .int .i64 a, .int .i64 b, .int .i64 c, .int .i64 d, .int .i64 m]] W fun e w' => ∃ g, e = .returned (.tuple #[.slice (some ⟨g, 0, none⟩) 512 512, .int .i64 0]) ∧ Own W w' g Z)
    (hR : ∀ W, Calls Tryd.prog 15 #[.agg #[.int .i64 f, .int .u8 ty, .string n, .string l, .string p, .string u, .string r, .int .i64 a, .int .i64 b, .int .i64 c, .int .i64 d, .int .i64 m]] W fun e w' => e = .returned (.tuple #[.string (strOf Z), .int .i64 0]) ∧ Below W.heap.size W w')
    (hD : ∀ e, DecNo Z e ∨ DecYes Z e → e = .returned (.tuple #[.agg #[.int .i64 1, .string n, .string l, .string p, .string u, .string r, .int .u8 ty, .int .i64 a, .int .i64 b, .int .i64 c, .int .i64 d, .int .i64 m], .int .i64 0])) :
    Calls Tryd.prog 4 #[.agg #[.int .i64 f, .string n, .string l, .string p, .string u, .string r, .int .u8 ty, .int .i64 a, .int .i64 b, .int .i64 c, .int .i64 d, .int .i64 m]] w fun e w' => e = .returned (.bool true) ∧ Below w.heap.size w w' := by
  have b0 : Below w.heap.size w (w.alloc (.cells #[.int .i64 f, .string n, .string l, .string p, .string u, .string r, .int .u8 ty, .int .i64 a, .int .i64 b, .int .i64 c, .int .i64 d, .int .i64 m] 25)) := (Below.refl _ w).alloc (Nat.le_refl _) _
  have HB0 : Hid (Below w.heap.size w (w.alloc (.cells #[.int .i64 f, .string n, .string l, .string p, .string u, .string r, .int .u8 ty, .int .i64 a, .int .i64 b, .int .i64 c, .int .i64 d, .int .i64 m] 25))) := b0
  have q := reads_ok (w.alloc (.cells #[.int .i64 f, .string n, .string l, .string p, .string u, .string r, .int .u8 ty, .int .i64 a, .int .i64 b, .int .i64 c, .int .i64 d, .int .i64 m] 25)) (L.grow b0)
  have HK : Hid (∀ W1, Below (w.alloc (.cells #[.int .i64 f, .string n, .string l, .string p, .string u, .string r, .int .u8 ty, .int .i64 a, .int .i64 b, .int .i64 c, .int .i64 d, .int .i64 m] 25)).heap.size (w.alloc (.cells #[.int .i64 f, .string n, .string l, .string p, .string u, .string r, .int .u8 ty, .int .i64 a, .int .i64 b, .int .i64 c, .int .i64 d, .int .i64 m] 25)) W1 → ∀ j v, (#[.int .i64 f, .string n, .string l, .string p, .string u, .string r, .int .u8 ty, .int .i64 a, .int .i64 b, .int .i64 c, .int .i64 d, .int .i64 m] : Array Value)[j]? = some v → W1.cell? ⟨w.heap.size, j, none⟩ = some v) := fun W1 hb j v h => cell_grow (new_cell w _ 25 j v h) hb
  clear b0
  have HE : Hid _ := hE
  have HR : Hid _ := hR
  have HD : Hid _ := hD
  have HL : Hid (Z.length = 512) := hl
  have HA : Hid (AllB Z) := hb
  have HRt : Hid (rightB Z = true) := hr
  have HV : Hid (∀ (W : World) (g : Nat), Src W (some ⟨g, 0, none⟩) Z → (convert 22 9 (.slice (some ⟨g, 0, none⟩) 512 512)).run Tryd.prog W = .ok (.string (strOf Z)) W) := fun W g hs => conv_src W (some ⟨g, 0, none⟩) Z 512 512 hl hs
  clear hE hR hD hl hb hr
  generalize strOf Z = SZ at *
  go_enter Tryd.func4, Tryd.ntmps4
  go_wp2_with (first | (go_at_call 9; refine q.mono ?_; rintro e w1 ⟨rfl, hb1⟩; have x0 := HK.out _ hb1 0 _ rfl; have x1 := HK.out _ hb1 1 _ rfl; have x2 := HK.out _ hb1 2 _ rfl; have x3 := HK.out _ hb1 3 _ rfl; have x4 := HK.out _ hb1 4 _ rfl; have x5 := HK.out _ hb1 5 _ rfl; have x6 := HK.out _ hb1 6 _ rfl; have x7 := HK.out _ hb1 7 _ rfl; have x8 := HK.out _ hb1 8 _ rfl; have x9 := HK.out _ hb1 9 _ rfl; have x10 := HK.out _ hb1 10 _ rfl; have x11 := HK.out _ hb1 11 _ rfl; have HB1 : Hid (Below (w.alloc (.cells #[.int .i64 f, .string n, .string l, .string p, .string u, .string r, .int .u8 ty, .int .i64 a, .int .i64 b, .int .i64 c, .int .i64 d, .int .i64 m] 25)).heap.size (w.alloc (.cells #[.int .i64 f, .string n, .string l, .string p, .string u, .string r, .int .u8 ty, .int .i64 a, .int .i64 b, .int .i64 c, .int .i64 d, .int .i64 m] 25)) w1) := hb1; have HW1 : Hid (Below w.heap.size w w1) := HB0.out.trans (hb1.mono HB0.out.size); clear hb1) | (go_at_call 14; refine (HE.out _ HW1.out).mono ?_; rintro e w2 ⟨g, rfl, O2⟩; clear x0 x1 x2 x3 x4 x5 x6 x7 x8 x9 x10 x11; have HB2 : Hid (Below (w.alloc (.cells #[.int .i64 f, .string n, .string l, .string p, .string u, .string r, .int .u8 ty, .int .i64 a, .int .i64 b, .int .i64 c, .int .i64 d, .int .i64 m] 25)).heap.size (w.alloc (.cells #[.int .i64 f, .string n, .string l, .string p, .string u, .string r, .int .u8 ty, .int .i64 a, .int .i64 b, .int .i64 c, .int .i64 d, .int .i64 m] 25)) w2) := HB1.out.trans (O2.below.mono HB1.out.size); have y0 := HK.out _ HB2.out 0 _ rfl; have y1 := HK.out _ HB2.out 1 _ rfl; have y2 := HK.out _ HB2.out 2 _ rfl; have y3 := HK.out _ HB2.out 3 _ rfl; have y4 := HK.out _ HB2.out 4 _ rfl; have y5 := HK.out _ HB2.out 5 _ rfl; have y6 := HK.out _ HB2.out 6 _ rfl; have y7 := HK.out _ HB2.out 7 _ rfl; have y8 := HK.out _ HB2.out 8 _ rfl; have y9 := HK.out _ HB2.out 9 _ rfl; have y10 := HK.out _ HB2.out 10 _ rfl; have y11 := HK.out _ HB2.out 11 _ rfl; have HS2 : Hid (Src w2 (some ⟨g, 0, none⟩) Z) := O2.src; clear O2) | (go_at_call 12; refine (plainh_w _ _ _ _ _ _ _ _ _ _ _ _ _).mono ?_; rintro e w3 ⟨rfl, b3⟩; have HB3 : Hid (Below (w.alloc (.cells #[.int .i64 f, .string n, .string l, .string p, .string u, .string r, .int .u8 ty, .int .i64 a, .int .i64 b, .int .i64 c, .int .i64 d, .int .i64 m] 25)).heap.size (w.alloc (.cells #[.int .i64 f, .string n, .string l, .string p, .string u, .string r, .int .u8 ty, .int .i64 a, .int .i64 b, .int .i64 c, .int .i64 d, .int .i64 m] 25)) w3) := HB2.out.trans (b3.mono HB2.out.size); have HG3 : Hid (Below w2.heap.size w2 w3) := b3; clear b3) | (go_at_call 15; refine (HR.out _).mono ?_; rintro e w4 ⟨rfl, b4⟩; have HB4 : Hid (Below (w.alloc (.cells #[.int .i64 f, .string n, .string l, .string p, .string u, .string r, .int .u8 ty, .int .i64 a, .int .i64 b, .int .i64 c, .int .i64 d, .int .i64 m] 25)).heap.size (w.alloc (.cells #[.int .i64 f, .string n, .string l, .string p, .string u, .string r, .int .u8 ty, .int .i64 a, .int .i64 b, .int .i64 c, .int .i64 d, .int .i64 m] 25)) w4) := HB3.out.trans (b4.mono HB3.out.size); have HG4 : Hid (Below w2.heap.size w2 w4) := HG3.out.trans (b4.mono HG3.out.size); clear b4; have hs4 := HS2.out.grow HG4.out; have hcv := HV.out _ g hs4; have q6 := dec_yes ⟨g, 0, none⟩ 512 Z w4 HA HL (by omega) (by omega) hs4 HRt.out ((L.grow HB0.out).grow HB4.out); clear hs4) | (go_at_call 10; refine q6.mono ?_; rintro e w5 ⟨h5, b5⟩; obtain rfl := HD.out e h5; have HB5 : Hid (Below (w.alloc (.cells #[.int .i64 f, .string n, .string l, .string p, .string u, .string r, .int .u8 ty, .int .i64 a, .int .i64 b, .int .i64 c, .int .i64 d, .int .i64 m] 25)).heap.size (w.alloc (.cells #[.int .i64 f, .string n, .string l, .string p, .string u, .string r, .int .u8 ty, .int .i64 a, .int .i64 b, .int .i64 c, .int .i64 d, .int .i64 m] 25)) w5) := HB4.out.trans (b5.mono HB4.out.size); clear y0 y1 y2 y3 y4 y5 y6 y7 y8 y9 y10 y11; have v0 := HK.out _ HB5.out 0 _ rfl; have v1 := HK.out _ HB5.out 1 _ rfl; have v2 := HK.out _ HB5.out 2 _ rfl; have v3 := HK.out _ HB5.out 3 _ rfl; have v4 := HK.out _ HB5.out 4 _ rfl; have v5 := HK.out _ HB5.out 5 _ rfl; have v6 := HK.out _ HB5.out 6 _ rfl; have v7 := HK.out _ HB5.out 7 _ rfl; have v8 := HK.out _ HB5.out 8 _ rfl; have v9 := HK.out _ HB5.out 9 _ rfl; have v10 := HK.out _ HB5.out 10 _ rfl; have v11 := HK.out _ HB5.out 11 _ rfl; have f5 : w5.frozen? ⟨w.heap.size, 0, none⟩ = false := (by have := HB5.out.frozen (p := ⟨w.heap.size, 0, none⟩) (by simp); rw [this]; simp); have hz5 : w.heap.size < w5.heap.size := (by have := HB5.out.size; simp at this; omega); clear q6 h5 b5))
  all_goals go_ret
  all_goals first | exact ⟨by first | rfl | simp, HW1.out⟩ | exact ⟨by first | rfl | simp, by have hB := HB0.out.trans (HB5.out.mono HB0.out.size); exact (hB.alloc hB.size _).setCell (Nat.le_refl _) _⟩ | exact ⟨by first | rfl | simp, by have hB := HB0.out.trans (HB5.out.mono HB0.out.size); exact (hB.setCell (p := ⟨w.heap.size, 0, none⟩) (Nat.le_refl _) _).alloc (by simp; omega) _⟩

theorem walk (f : Int) (n l p u r : ByteArray) (ty a b c d m : Int) (w : World) (L : Laid w) (fit : (0 ≤ ty ∧ ty ≤ 255) ∧ rng a ∧ rng b ∧ rng c ∧ rng d ∧ rng m) :
    Calls Tryd.prog 4 #[.agg (hcells f n l p u r ty a b c d m)] w fun e w' => e = .returned (.bool true) ∧ Below w.heap.size w w' := by
  have hns : ∀ k, k < 5 → -9223372036854775808 ≤ numsF a b c d m k ∧ numsF a b c d m k ≤ 9223372036854775807 := five fit.2.1 fit.2.2.1 fit.2.2.2.1 fit.2.2.2.2.1 fit.2.2.2.2.2
  have hre := fun W => re_w f n l p u r ty a b c d m W fit.1 hns
  cases hf : textsB n l p u r with
  | false =>
    refine walk_no f n l p u r ty a b c d m w L 2 (by omega) (fun W hb => enc_long f n l p u r ty a b c d m W hf) (fun W => (hre W).mono fun e w' h => ⟨?_, h.2⟩)
    rcases h.1 with h1 | h1 | h1
    · exact h1.2
    · rw [h1.1] at hf; cases hf
    · rw [h1.1] at hf; cases hf
  | true =>
    have q := fun W (hb : Below w.heap.size w W) => enc_yes f n l p u r ty a b c d m W hf (L.grow hb) fit.1 fit.2.1 fit.2.2.1 fit.2.2.2.1 fit.2.2.2.2.1 fit.2.2.2.2.2
    by_cases hn : ∀ j, j < 5 → numFit (numsF a b c d m) j = true
    · have hl := encL_length n l p u r ty (numsF a b c d m) hf
      have hb := encL_allB n l p u r ty (numsF a b c d m) fit.1
      refine walk_yes f n l p u r ty a b c d m w L (sealL (encL n l p u r ty (numsF a b c d m))) (sealL_length _ hl) (sealL_allB _ hb) (sealL_right _ hl hb) (fun W hb => (q W hb).mono fun e w' h => ?_) (fun W => (hre W).mono fun e w' h => ⟨?_, h.2⟩) (new_of n l p u r ty a b c d m hf hn fit.2)
      · rcases h with ⟨_, ⟨j, hj, h2⟩, _⟩ | ⟨g, h1, _, h3⟩
        · rw [hn j hj] at h2; cases h2
        · exact ⟨g, h1, h3⟩
      · rcases h.1 with h1 | ⟨_, ⟨k, hk, h2⟩, _⟩ | h1
        · rw [h1.1] at hf; cases hf
        · rw [hn k hk] at h2; cases h2
        · exact h1.2.2
    · refine walk_no f n l p u r ty a b c d m w L 20 (by omega) (fun W hb => (q W hb).mono fun e w' h => ?_) (fun W => (hre W).mono fun e w' h => ⟨?_, h.2⟩)
      · rcases h with ⟨h1, _, h3⟩ | ⟨g, _, h2, _⟩
        · exact ⟨h1, h3⟩
        · exact absurd h2 hn
      · rcases h.1 with h1 | h1 | h1
        · rw [h1.1] at hf; cases hf
        · exact h1.2.2
        · exact absurd h1.2.1 hn


theorem lit_i64 {z : Int} (h : (Lit.int .i64 z).wf = true) : -9223372036854775808 ≤ z ∧ z ≤ 9223372036854775807 := by
  have h' : IntKind.i64.min ≤ z ∧ z ≤ IntKind.i64.max := by simpa [Lit.wf] using h
  have e1 : IntKind.i64.min = -9223372036854775808 := by decide
  have e2 : IntKind.i64.max = 9223372036854775807 := by decide
  omega

set_option maxRecDepth 100000 in
theorem lifted (os : Os) (started : os.Started) (H : Type) (enc : TypeId × Value → H) :
    ReturnsInHanded {} Tryd.checked os 4 .any (fun w args => (Rows.headWritesSpec.pre enc Tryd.prog Tryd.f4 [] false w args ∧ laidMetH Tryd.prog seven w) ∧ sizedMet enc Tryd.prog Tryd.f4 (OpenSpec.ofChange Rows.headWritesSpec) false w args)
      (Rows.headWritesSpec.post enc Tryd.prog Tryd.f4 false true false false) := by
  refine returnsInHanded_of_change_and (C := Tryd.checked) (X := fun w _ => laidMetH Tryd.prog seven w) (fun _ _ _ hh h => h.of_heap hh) own started (by kernel_rfl) Tryd.func4
    (ChangeSpec.witness_at (enc := enc) (C := Tryd.checked) (os := os) (X := fun w _ => laidMetH Tryd.prog seven w) false
      (start os)
      #[.agg (hcells 0 ⟨#[]⟩ ⟨#[]⟩ ⟨#[]⟩ ⟨#[]⟩ ⟨#[]⟩ 0 0 0 0 0 0)] 8 rfl (by kernel_rfl) (by kernel_rfl) (by kernel_rfl) (by kernel_rfl) (by kernel_rfl) (laidMet_of_run' 8 (by kernel_rfl) (by kernel_rfl))) ?_
  intro W base args ds gs before hval0 hW _ hsz hL _
  have hval : ∀ (j : Nat) t v, Tryd.f4.params[j]? = some t → args[j]? = some v → Value.okWide Tryd.prog W .any base t v := hval0
  have hW' := hW
  obtain ⟨p, q, hA0, hV0, rfl, hfz, hnd⟩ := hW
  have hA : DataW.TrodAll enc Tryd.prog W 0 (fun _ => true) true Tryd.f4.params.toList args.toList ds p := hA0
  have hV : DataW.TrodVars enc Tryd.prog W (fun _ => true) [] gs q := hV0
  rw [Tryd.params4] at hA hval
  obtain ⟨v0, vs0, d0, ds0, p0, q0, hargs, rfl, rfl, h0, r0⟩ := trodAll_cons hA
  obtain ⟨rfl, rfl, rfl⟩ := trodAll_nil r0
  obtain rfl : args = #[v0] := by cases args; simp_all
  obtain ⟨rfl, rfl⟩ : gs = [] ∧ q = [] := by
    cases gs with
    | nil => exact ⟨rfl, hV⟩
    | cons g r => exact absurd hV (by intro h; cases h)
  have k0 := h0
  have lt0 : ∀ x ∈ p0, x.block < W.heap.size := by obtain ⟨m, hm⟩ := k0; exact DataW.trod_lt m _ _ _ hm
  obtain ⟨f_, n_, l_, p_, u_, r_, ty_, a_, b_, c_, d_, m_, rfl, fit0⟩ := open_hd (hval 0 25 v0 rfl rfl) h0
  clear hA0 hval0
  refine (walk f_ n_ l_ p_ u_ r_ ty_ a_ b_ c_ d_ m_ W (met hL) fit0).mono fun e W' ⟨he, st⟩ => ?_
  subst he
  exact ⟨_, rfl, _, _, _, [], _, [], hW', trodAll_mk1 (shut_bool Tryd.underlying4 _), (trodAll_cons_mk (Below.trod laidOut (by kernel_rfl) (of_decide_eq_true (by kernel_rfl)) k0 st lt0) trodAll_mk0), rfl, st.frame _, fun h => by cases h⟩

theorem over : Rows.HeadWritesSaid :=
  OpenClaim.holds_of_wide 4 Tryd.f4 rfl rfl rfl rfl rfl rfl rfl ⟨rfl, rfl, rfl, rfl, rfl⟩ rfl rfl rfl rfl rfl (by kernel_rfl) Tryd.func4 (by kernel_rfl)
    (of_decide_eq_true (by kernel_rfl)) (by unfold Func.isWrapper; rw [if_neg (of_decide_eq_false (by kernel_rfl))]; exact ⟨rfl, rfl⟩)
    (fun os started H enc _ => lifted os started H enc)

theorem carded : Rows.HeadWritesCardSaid :=
  Claim7.holds_tied_plain_at .later [] _ _ _ _
    over (fun _ h => by cases h) (by kernel_rfl) (fun _ h => by cases h) headWrites_row_tie rfl ⟨rfl, rfl⟩ (by kernel_rfl) rfl
    (fun f fn hf hfn => by
      obtain rfl : f = 4 := Option.some.inj ((show Tryd.prog.funcNamed Tryd.f4.name = some 4 by kernel_rfl).symm.trans hf) |>.symm
      obtain rfl : fn = Tryd.f4 := (Option.some.inj (Tryd.func4.symm.trans hfn)).symm
      refine ⟨by kernel_rfl, fun j t ht => ?_⟩
      have hall : ∀ t ∈ Tryd.f4.params, Tryd.prog.wantsStandIn t = false := by
        rw [Tryd.params4]
        intro t ht
        simp at ht
        subst ht; kernel_rfl
      exact hall t (Array.mem_of_getElem? ht))
    (by kernel_rfl)

end Go.Proofs.YtmholjjicklnhabDoor.headWrites
namespace Go.Proofs.YtmholjjicklnhabDoor
theorem headWrites_holds : Rows.HeadWritesCardSaid := headWrites.carded
#print axioms headWrites_holds
end Go.Proofs.YtmholjjicklnhabDoor
