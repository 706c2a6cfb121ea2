/-
  WholeHeader: its walk.
-/
import Derived.Test.YtmholjjicklnhacDoorRt
import Derived.Test.YtmholjjicklnhacDoorEq
import Derived.BigQuiet
import Derived.Deep.RegionHeld3
import Derived.Deep.DeepCutAuto
namespace Go.Proofs.YtmholjjicklnhacDoor
open Go.RowKit
set_option linter.unusedVariables false
set_option linter.unusedSimpArgs false

/-- the first header's block -/
def z1 : List Int := encL ⟨#[97]⟩ ⟨#[]⟩ ⟨#[]⟩ ⟨#[]⟩ ⟨#[]⟩ 48 (numsF 0 0 0 0 0)
theorem z1_texts : textsB ⟨#[97]⟩ ⟨#[]⟩ ⟨#[]⟩ ⟨#[]⟩ ⟨#[]⟩ = true := by decide +kernel
theorem z1_nums : ∀ k, k < 5 → numFit (numsF 0 0 0 0 0) k = true := by decide +kernel

theorem kcell {W : World} {KB : Nat} {cs : Array Value} (h : W.heap[KB]? = some (.cells cs 25 (0, 0))) (j : Nat) (v : Value) (hv : cs[j]? = some v) : W.cell? ⟨KB, j, none⟩ = some v := by
  simp only [World.cell?, h]
  exact hv

theorem xor_back (x y : Int) (hx : 0 ≤ x ∧ x ≤ 255) (hy : 0 ≤ y ∧ y ≤ 255) : bits .xor .u8 (bits .xor .u8 x y) y = x := by
  have e : ∀ a : Int, bits .xor .u8 a y = ((BitVec.ofInt 8 a ^^^ BitVec.ofInt 8 y).toNat : Int) := fun a => by
    have e1 : bits .xor .u8 a y = IntKind.u8.wrap (((BitVec.ofInt 8 a ^^^ BitVec.ofInt 8 y).toNat : Nat) : Int) := rfl
    have hlt := (BitVec.ofInt 8 a ^^^ BitVec.ofInt 8 y).isLt
    rw [e1, IntKind.wrap_u8]; omega
  rw [e, e]
  rw [show BitVec.ofInt 8 (((BitVec.ofInt 8 x ^^^ BitVec.ofInt 8 y).toNat : Nat) : Int) = BitVec.ofInt 8 x ^^^ BitVec.ofInt 8 y from BitVec.eq_of_toNat_eq (by
    have hlt := (BitVec.ofInt 8 x ^^^ BitVec.ofInt 8 y).isLt
    rw [BitVec.toNat_ofInt]; omega)]
  rw [BitVec.xor_assoc, BitVec.xor_self, BitVec.xor_zero, BitVec.toNat_ofInt]
  omega

theorem held_step {w6 W W' : World} {R : Prop} (h : Below w6.heap.size w6 W ∧ R) (b : Below W.heap.size W W') : Below w6.heap.size w6 W' := h.1.trans (b.mono h.1.size)

theorem first_ok (W : World) (L : Laid W) : Calls Tryd.prog 8 #[.agg #[.int .i64 0, .string ⟨#[97]⟩, .string ⟨#[]⟩, .string ⟨#[]⟩, .string ⟨#[]⟩, .string ⟨#[]⟩, .int .u8 48, .int .i64 0, .int .i64 0, .int .i64 0, .int .i64 0, .int .i64 0]] W fun e w' => ∃ g, e = .returned (.tuple #[.slice (some ⟨g, 0, none⟩) 512 512, .int .i64 0]) ∧ Below W.heap.size W w' ∧ (∀ W2, Below w'.heap.size w' W2 → Calls Tryd.prog 9 #[.slice (some ⟨g, 0, none⟩) 512 512] W2 fun e w' => e = .returned (.bool true) ∧ W2 = w') := by
  refine (enc_yes 0 ⟨#[97]⟩ ⟨#[]⟩ ⟨#[]⟩ ⟨#[]⟩ ⟨#[]⟩ 48 0 0 0 0 0 W z1_texts L (by omega) (by omega) (by omega) (by omega) (by omega) (by omega)).mono fun e w' h => ?_
  rcases h with ⟨_, ⟨k, hk, hn⟩, _⟩ | ⟨g, rfl, _, O⟩
  · rw [z1_nums k hk] at hn; cases hn
  · have hl : z1.length = 512 := encL_length _ _ _ _ _ _ _ z1_texts
    have hb : AllB z1 := encL_allB _ _ _ _ _ _ _ (by omega)
    refine ⟨g, rfl, O.below, fun W2 hw => ?_⟩
    have := right_yes ⟨g, 0, none⟩ 512 (sealL z1) W2 (sealL_allB _ hb) (sealL_length _ hl) (by omega) (by omega) (O.src.grow hw)
    rw [sealL_right z1 hl hb] at this
    exact this

set_option maxRecDepth 100000 in
set_option maxHeartbeats 2000000 in
/-- no header is written -/
theorem wh_no (f : Int) (n l p u r : ByteArray) (ty a b c d m k turn : Int) (w : World) (L : Laid w) (code : Int) (hcode : ¬ code = 0) (hE : ∀ W, Below w.heap.size w W → Calls Tryd.prog 8 #[.agg #[.int .i64 f, .string n, .string l, .string p, .string u, .string r, .int .u8 ty, .int .i64 a, .int .i64 b, .int .i64 c, .int .i64 d, .int .i64 m]] W fun e w' => e = .returned (.tuple #[.slice none 0 0, .int .i64 code]) ∧ Below W.heap.size W w') :
    Calls Tryd.prog 4 #[.agg #[.int .i64 f, .string n, .string l, .string p, .string u, .string r, .int .u8 ty, .int .i64 a, .int .i64 b, .int .i64 c, .int .i64 d, .int .i64 m], .int .i64 k, .int .u8 turn] w fun e w' => e = .returned (.bool true) ∧ Below w.heap.size w w' := by
  have b0 : Below w.heap.size w (w.alloc (.cells #[.int .i64 f, .string n, .string l, .string p, .string u, .string r, .int .u8 ty, .int .i64 a, .int .i64 b, .int .i64 c, .int .i64 d, .int .i64 m] 25)) := (Below.refl _ w).alloc (Nat.le_refl _) _
  have HB0 : Hid (Below w.heap.size w (w.alloc (.cells #[.int .i64 f, .string n, .string l, .string p, .string u, .string r, .int .u8 ty, .int .i64 a, .int .i64 b, .int .i64 c, .int .i64 d, .int .i64 m] 25))) := b0
  have q := first_ok (w.alloc (.cells #[.int .i64 f, .string n, .string l, .string p, .string u, .string r, .int .u8 ty, .int .i64 a, .int .i64 b, .int .i64 c, .int .i64 d, .int .i64 m] 25)) (L.grow b0)
  have HK : Hid (∀ W1, Below (w.alloc (.cells #[.int .i64 f, .string n, .string l, .string p, .string u, .string r, .int .u8 ty, .int .i64 a, .int .i64 b, .int .i64 c, .int .i64 d, .int .i64 m] 25)).heap.size (w.alloc (.cells #[.int .i64 f, .string n, .string l, .string p, .string u, .string r, .int .u8 ty, .int .i64 a, .int .i64 b, .int .i64 c, .int .i64 d, .int .i64 m] 25)) W1 → ∀ j v, (#[.int .i64 f, .string n, .string l, .string p, .string u, .string r, .int .u8 ty, .int .i64 a, .int .i64 b, .int .i64 c, .int .i64 d, .int .i64 m] : Array Value)[j]? = some v → W1.cell? ⟨w.heap.size, j, none⟩ = some v) := fun W1 hb j v h => cell_grow (new_cell w _ 25 j v h) hb
  clear b0
  have HE : Hid _ := hE
  have hc2 : (code != 0) = true := by simpa using hcode
  clear hE
  go_enter Tryd.func4, Tryd.ntmps4
  go_wp2_with (first | (have vd := h9done; go_at_call 8; refine (HE.out _ HB1.out).mono ?_; rintro e w2 ⟨rfl, b2⟩) | (go_at_call 8; refine q.mono ?_; rintro e w1 ⟨g1, rfl, hb1, q9⟩; have Q9 : Hid _ := q9; clear q9 q; have x0 := HK.out _ hb1 0 _ rfl; have x1 := HK.out _ hb1 1 _ rfl; have x2 := HK.out _ hb1 2 _ rfl; have x3 := HK.out _ hb1 3 _ rfl; have x4 := HK.out _ hb1 4 _ rfl; have x5 := HK.out _ hb1 5 _ rfl; have x6 := HK.out _ hb1 6 _ rfl; have x7 := HK.out _ hb1 7 _ rfl; have x8 := HK.out _ hb1 8 _ rfl; have x9 := HK.out _ hb1 9 _ rfl; have x10 := HK.out _ hb1 10 _ rfl; have x11 := HK.out _ hb1 11 _ rfl; have HB1 : Hid (Below w.heap.size w w1) := HB0.out.trans (hb1.mono HB0.out.size)) | (go_at_call 9; refine (Q9.out _ (Below.refl _ _)).mono ?_; rintro e w9 ⟨rfl, rfl⟩; have h9done : Hid True := True.intro))
  all_goals go_ret
  all_goals first | exact ⟨by first | rfl | simp, HB1.out.trans (b2.mono HB1.out.size)⟩ | exact ⟨by first | rfl | simp, HB1.out⟩

set_option maxRecDepth 100000 in
set_option maxHeartbeats 4000000 in
theorem wh_yes (f : Int) (n l p u r : ByteArray) (ty a b c d m k turn : Int) (w : World) (L : Laid w) (hsz : (n.size : Int) ≤ 100 ∧ (l.size : Int) ≤ 100 ∧ (p.size : Int) ≤ 155 ∧ (u.size : Int) ≤ 31 ∧ (r.size : Int) ≤ 31) (z : List Int) (hl : z.length = 512) (hb : AllB z) (hr : rightB z = true) (hnum : parseO (fld z 124 136) = some d) (hmag : fld z 257 265 = ustarL) (hty : z[156]?.getD 0 = ty) (ht : 0 ≤ turn ∧ turn ≤ 255)
    (hX : ∀ j, j < 512 → ¬ (148 ≤ j ∧ j < 156) → ∀ v : Int, 0 ≤ v ∧ v ≤ 255 → ∀ e, DecNo (sealL (z.set j v)) e ∨ DecYes (sealL (z.set j v)) e → (∃ code : Int, ¬ code = 0 ∧ e = .returned (.tuple #[.agg #[.int .i64 0, .string ⟨#[]⟩, .string ⟨#[]⟩, .string ⟨#[]⟩, .string ⟨#[]⟩, .string ⟨#[]⟩, .int .u8 0, .int .i64 0, .int .i64 0, .int .i64 0, .int .i64 0, .int .i64 0], .int .i64 code])) ∨ (∃ (f' : Int) (n' l' p' u' r' : ByteArray) (ty' a' b' c' d' m' : Int), e = .returned (.tuple #[.agg #[.int .i64 f', .string n', .string l', .string p', .string u', .string r', .int .u8 ty', .int .i64 a', .int .i64 b', .int .i64 c', .int .i64 d', .int .i64 m'], .int .i64 0]) ∧ (j < 100 → z[j]?.getD 0 ≠ 0 → v ≠ 0 → v ≠ z[j]?.getD 0 → (n'.toList == n.toList) = false)))
    (hE : ∀ W, Below w.heap.size w W → Calls Tryd.prog 8 #[.agg #[.int .i64 f, .string n, .string l, .string p, .string u, .string r, .int .u8 ty, .int .i64 a, .int .i64 b, .int .i64 c, .int .i64 d, .int .i64 m]] W fun e w' => ∃ g, e = .returned (.tuple #[.slice (some ⟨g, 0, none⟩) 512 512, .int .i64 0]) ∧ Own W w' g z)
    (hD : ∀ e, DecNo z e ∨ DecYes z e → e = .returned (.tuple #[.agg #[.int .i64 1, .string n, .string l, .string p, .string u, .string r, .int .u8 ty, .int .i64 a, .int .i64 b, .int .i64 c, .int .i64 d, .int .i64 m], .int .i64 0])) :
    Calls Tryd.prog 4 #[.agg #[.int .i64 f, .string n, .string l, .string p, .string u, .string r, .int .u8 ty, .int .i64 a, .int .i64 b, .int .i64 c, .int .i64 d, .int .i64 m], .int .i64 k, .int .u8 turn] w fun e w' => e = .returned (.bool true) ∧ Below w.heap.size w w' := by
  have b0 : Below w.heap.size w (w.alloc (.cells #[.int .i64 f, .string n, .string l, .string p, .string u, .string r, .int .u8 ty, .int .i64 a, .int .i64 b, .int .i64 c, .int .i64 d, .int .i64 m] 25)) := (Below.refl _ w).alloc (Nat.le_refl _) _
  have HB0 : Hid (Below w.heap.size w (w.alloc (.cells #[.int .i64 f, .string n, .string l, .string p, .string u, .string r, .int .u8 ty, .int .i64 a, .int .i64 b, .int .i64 c, .int .i64 d, .int .i64 m] 25))) := b0
  have q := first_ok (w.alloc (.cells #[.int .i64 f, .string n, .string l, .string p, .string u, .string r, .int .u8 ty, .int .i64 a, .int .i64 b, .int .i64 c, .int .i64 d, .int .i64 m] 25)) (L.grow b0)
  have HK : Hid (∀ W1, Below (w.alloc (.cells #[.int .i64 f, .string n, .string l, .string p, .string u, .string r, .int .u8 ty, .int .i64 a, .int .i64 b, .int .i64 c, .int .i64 d, .int .i64 m] 25)).heap.size (w.alloc (.cells #[.int .i64 f, .string n, .string l, .string p, .string u, .string r, .int .u8 ty, .int .i64 a, .int .i64 b, .int .i64 c, .int .i64 d, .int .i64 m] 25)) W1 → ∀ j v, (#[.int .i64 f, .string n, .string l, .string p, .string u, .string r, .int .u8 ty, .int .i64 a, .int .i64 b, .int .i64 c, .int .i64 d, .int .i64 m] : Array Value)[j]? = some v → W1.cell? ⟨w.heap.size, j, none⟩ = some v) := fun W1 hb j v h => cell_grow (new_cell w _ 25 j v h) hb
  clear b0
  have HE : Hid _ := hE
  have HL : Hid (z.length = 512) := hl
  have HA : Hid (AllB z) := hb
  have HR : Hid (rightB z = true) := hr
  have HD : Hid _ := hD
  have HP : Hid (∀ (W : World) (g : Nat), Src W (some ⟨g, 0, none⟩) z → Calls Tryd.prog 10 #[.slice (some ⟨g, 124, none⟩) 12 388] W fun e w' => e = .returned (.tuple #[.int .i64 d, .int .i64 0]) ∧ W = w') := by
    intro W g hs
    have hlen := fld_length z 124 136 (by rw [hl]; omega)
    have := parse_w (some ⟨g, 124, none⟩) 388 (fld z 124 136) W (by rw [hlen]; omega) (by omega) (by have := bytes_fld hs hb hl 124 136 (by omega) (by omega) (by omega); simpa using this)
    rw [hlen, hnum] at this
    exact this
  have HV : Hid (∀ (W : World) (g : Nat), Src W (some ⟨g, 0, none⟩) z → (convert 22 9 (.slice (some ⟨g, 257, none⟩) 8 255)).run Tryd.prog W = .ok (.string ⟨#[117, 115, 116, 97, 114, 0, 48, 48]⟩) W) := by
    intro W g hs
    have hlen := fld_length z 257 265 (by rw [hl]; omega)
    have hsrc := src_cut hs 257 (265 - 257) (by omega)
    have := conv_src W (some ⟨g, 0 + 257, none⟩) (fld z 257 265) 8 255 hlen hsrc
    rw [hmag, show strOf ustarL = ⟨#[117, 115, 116, 97, 114, 0, 48, 48]⟩ from rfl] at this
    simpa using this
  have HT : Hid (∀ (W : World) (g : Nat), Src W (some ⟨g, 0, none⟩) z → W.cell? ⟨g, 156, none⟩ = some (.int .u8 ty)) := by
    intro W g hs
    have := hs.cell 156 (by rw [hl]; omega)
    rw [hty, addr0] at this
    exact this
  clear hE hl hb hr hD hnum hmag hty
  go_enter Tryd.func4, Tryd.ntmps4
  go_wp2_with (first | (have vd := h9done; go_at_call 8; refine (HE.out _ HB1.out).mono ?_; rintro e w2 ⟨g, rfl, O2⟩; clear x0; clear x1; clear x2; clear x3; clear x4; clear x5; clear x6; clear x7; clear x8; clear x9; clear x10; clear x11; have hb2 : Below (w.alloc (.cells #[.int .i64 f, .string n, .string l, .string p, .string u, .string r, .int .u8 ty, .int .i64 a, .int .i64 b, .int .i64 c, .int .i64 d, .int .i64 m] 25)).heap.size (w.alloc (.cells #[.int .i64 f, .string n, .string l, .string p, .string u, .string r, .int .u8 ty, .int .i64 a, .int .i64 b, .int .i64 c, .int .i64 d, .int .i64 m] 25)) w2 := hb1.trans (O2.below.mono hb1.size); have HBb2 : Hid _ := hb2; have y0 := HK.out _ HBb2.out 0 _ rfl; have y1 := HK.out _ HBb2.out 1 _ rfl; have y2 := HK.out _ HBb2.out 2 _ rfl; have y3 := HK.out _ HBb2.out 3 _ rfl; have y4 := HK.out _ HBb2.out 4 _ rfl; have y5 := HK.out _ HBb2.out 5 _ rfl; have y6 := HK.out _ HBb2.out 6 _ rfl; have y7 := HK.out _ HBb2.out 7 _ rfl; have y8 := HK.out _ HBb2.out 8 _ rfl; have y9 := HK.out _ HBb2.out 9 _ rfl; have y10 := HK.out _ HBb2.out 10 _ rfl; have y11 := HK.out _ HBb2.out 11 _ rfl; have HO2 : Hid _ := O2; have q10 := HP.out _ g O2.src; have hcv := HV.out _ g O2.src; have c156 := HT.out _ g O2.src; clear O2 hb2) | (go_at_call 8; refine q.mono ?_; rintro e w1 ⟨g1, rfl, hb1, q9⟩; have Q9 : Hid _ := q9; clear q9 q; have x0 := HK.out _ hb1 0 _ rfl; have x1 := HK.out _ hb1 1 _ rfl; have x2 := HK.out _ hb1 2 _ rfl; have x3 := HK.out _ hb1 3 _ rfl; have x4 := HK.out _ hb1 4 _ rfl; have x5 := HK.out _ hb1 5 _ rfl; have x6 := HK.out _ hb1 6 _ rfl; have x7 := HK.out _ hb1 7 _ rfl; have x8 := HK.out _ hb1 8 _ rfl; have x9 := HK.out _ hb1 9 _ rfl; have x10 := HK.out _ hb1 10 _ rfl; have x11 := HK.out _ hb1 11 _ rfl; have HB1 : Hid (Below w.heap.size w w1) := HB0.out.trans (hb1.mono HB0.out.size)) | (go_at_call 9; refine (Q9.out _ (Below.refl _ _)).mono ?_; rintro e w9 ⟨rfl, rfl⟩; have h9done : Hid True := True.intro) | (go_at_call 10; refine q10.mono ?_; rintro e w10 ⟨rfl, rfl⟩))
  have HSS : Hid (∀ W, Below w2.heap.size w2 W → (convert 22 9 (.slice (some ⟨g, 257, none⟩) 8 255)).run Tryd.prog W = .ok (.string ⟨#[117, 115, 116, 97, 114, 0, 48, 48]⟩) W ∧ W.cell? ⟨g, 156, none⟩ = some (.int .u8 ty) ∧ W.cell? ⟨w.heap.size, 6, none⟩ = some (.int .u8 ty) ∧ W.cell? ⟨w.heap.size, 10, none⟩ = some (.int .i64 d)) := fun W hw => ⟨HV.out _ g (HO2.out.src.grow hw), HT.out _ g (HO2.out.src.grow hw), HK.out _ (HBb2.out.trans (hw.mono HBb2.out.size)) 6 _ rfl, HK.out _ (HBb2.out.trans (hw.mono HBb2.out.size)) 10 _ rfl⟩
  have h0 := HSS.out _ (Below.refl _ w2).drew
  go_region_held3 (fun W => (convert 22 9 (.slice (some ⟨g, 257, none⟩) 8 255)).run Tryd.prog W = .ok (.string ⟨#[117, 115, 116, 97, 114, 0, 48, 48]⟩) W ∧ W.cell? ⟨g, 156, none⟩ = some (.int .u8 ty) ∧ W.cell? ⟨w.heap.size, 6, none⟩ = some (.int .u8 ty) ∧ W.cell? ⟨w.heap.size, 10, none⟩ = some (.int .i64 d)) (first | assumption | go_keep) (fail)
  have HB3 : Hid (Below (w.alloc (.cells #[.int .i64 f, .string n, .string l, .string p, .string u, .string r, .int .u8 ty, .int .i64 a, .int .i64 b, .int .i64 c, .int .i64 d, .int .i64 m] 25)).heap.size (w.alloc (.cells #[.int .i64 f, .string n, .string l, .string p, .string u, .string r, .int .u8 ty, .int .i64 a, .int .i64 b, .int .i64 c, .int .i64 d, .int .i64 m] 25)) w2.drew) := HBb2.out.drew
  have HO3 : Hid (Own w1 w2.drew g z) := HO2.out.grow (Below.refl _ _).drew
  clear h0 HSS hcv c156 y0 y1 y2 y3 y4 y5 y6 y7 y8 y9 y10 y11
  have q6 := dec_yes ⟨g, 0, none⟩ 512 z w2.drew HA HL (by omega) (by omega) HO3.out.src HR.out ((L.grow HB0.out).grow HB3.out)
  generalize w2.drew = w3 at *
  go_wp2_with (go_at_call 6; refine q6.mono ?_; rintro e w5 ⟨h5, b5⟩; obtain rfl := HD.out e h5; have HO5 : Hid (Own w1 w5 g z) := HO3.out.grow b5; have HB5 : Hid (Below (w.alloc (.cells #[.int .i64 f, .string n, .string l, .string p, .string u, .string r, .int .u8 ty, .int .i64 a, .int .i64 b, .int .i64 c, .int .i64 d, .int .i64 m] 25)).heap.size (w.alloc (.cells #[.int .i64 f, .string n, .string l, .string p, .string u, .string r, .int .u8 ty, .int .i64 a, .int .i64 b, .int .i64 c, .int .i64 d, .int .i64 m] 25)) w5) := HB3.out.trans (b5.mono HB3.out.size); clear q6 h5 b5)
  have HB6 : Hid (Below w5.heap.size w5 (w5.alloc (.cells #[.int .i64 1, .string n, .string l, .string p, .string u, .string r, .int .u8 ty, .int .i64 a, .int .i64 b, .int .i64 c, .int .i64 d, .int .i64 m] 25))) := (Below.refl _ _).alloc (Nat.le_refl _) _
  have HKC : Hid (∀ W, Below (w5.alloc (.cells #[.int .i64 1, .string n, .string l, .string p, .string u, .string r, .int .u8 ty, .int .i64 a, .int .i64 b, .int .i64 c, .int .i64 d, .int .i64 m] 25)).heap.size (w5.alloc (.cells #[.int .i64 1, .string n, .string l, .string p, .string u, .string r, .int .u8 ty, .int .i64 a, .int .i64 b, .int .i64 c, .int .i64 d, .int .i64 m] 25)) W → ∀ j v, (#[.int .i64 1, .string n, .string l, .string p, .string u, .string r, .int .u8 ty, .int .i64 a, .int .i64 b, .int .i64 c, .int .i64 d, .int .i64 m] : Array Value)[j]? = some v → W.cell? ⟨w5.heap.size, j, none⟩ = some v) := fun W hw j v h => cell_grow (new_cell w5 _ 25 j v h) hw
  have HH6 : Hid (∀ W, Below (w5.alloc (.cells #[.int .i64 1, .string n, .string l, .string p, .string u, .string r, .int .u8 ty, .int .i64 a, .int .i64 b, .int .i64 c, .int .i64 d, .int .i64 m] 25)).heap.size (w5.alloc (.cells #[.int .i64 1, .string n, .string l, .string p, .string u, .string r, .int .u8 ty, .int .i64 a, .int .i64 b, .int .i64 c, .int .i64 d, .int .i64 m] 25)) W → W.heap[w5.heap.size]? = some (.cells #[.int .i64 1, .string n, .string l, .string p, .string u, .string r, .int .u8 ty, .int .i64 a, .int .i64 b, .int .i64 c, .int .i64 d, .int .i64 m] 25 (0, 0))) := fun W hw => by rw [hw.block _ (by simp)]; exact heap_alloc_new w5 _
  generalize w5.alloc (.cells #[.int .i64 1, .string n, .string l, .string p, .string u, .string r, .int .u8 ty, .int .i64 a, .int .i64 b, .int .i64 c, .int .i64 d, .int .i64 m] 25) = w6 at *
  generalize hKB : w5.heap.size = KB at *
  have HKB : Hid (w5.heap.size = KB) := hKB
  clear hKB
  have HS : Hid (∀ W, Below w6.heap.size w6 W → Below w6.heap.size w6 W ∧ W.cell? ⟨w.heap.size, 1, none⟩ = some (.string n) ∧ W.cell? ⟨w.heap.size, 3, none⟩ = some (.string p) ∧ W.cell? ⟨KB, 0, none⟩ = some (.int .i64 1) ∧ W.cell? ⟨KB, 1, none⟩ = some (.string n) ∧ W.cell? ⟨KB, 2, none⟩ = some (.string l) ∧ W.cell? ⟨KB, 3, none⟩ = some (.string p) ∧ W.cell? ⟨KB, 4, none⟩ = some (.string u) ∧ W.cell? ⟨KB, 5, none⟩ = some (.string r) ∧ W.cell? ⟨KB, 6, none⟩ = some (.int .u8 ty) ∧ W.cell? ⟨KB, 7, none⟩ = some (.int .i64 a) ∧ W.cell? ⟨KB, 8, none⟩ = some (.int .i64 b) ∧ W.cell? ⟨KB, 9, none⟩ = some (.int .i64 c) ∧ W.cell? ⟨KB, 10, none⟩ = some (.int .i64 d) ∧ W.cell? ⟨KB, 11, none⟩ = some (.int .i64 m)) := fun W hw => by
    have hB : Below (w.alloc (.cells #[.int .i64 f, .string n, .string l, .string p, .string u, .string r, .int .u8 ty, .int .i64 a, .int .i64 b, .int .i64 c, .int .i64 d, .int .i64 m] 25)).heap.size (w.alloc (.cells #[.int .i64 f, .string n, .string l, .string p, .string u, .string r, .int .u8 ty, .int .i64 a, .int .i64 b, .int .i64 c, .int .i64 d, .int .i64 m] 25)) W := HB5.out.trans ((HB6.out.trans (hw.mono (by have := HB6.out.size; rw [HKB.out] at this; exact this))).mono (by have := HB5.out.size; rw [HKB.out] at this; exact this))
    exact ⟨hw, HK.out _ hB 1 _ rfl, HK.out _ hB 3 _ rfl, HKC.out _ hw 0 _ rfl, HKC.out _ hw 1 _ rfl, HKC.out _ hw 2 _ rfl, HKC.out _ hw 3 _ rfl, HKC.out _ hw 4 _ rfl, HKC.out _ hw 5 _ rfl, HKC.out _ hw 6 _ rfl, HKC.out _ hw 7 _ rfl, HKC.out _ hw 8 _ rfl, HKC.out _ hw 9 _ rfl, HKC.out _ hw 10 _ rfl, HKC.out _ hw 11 _ rfl⟩
  have h0 := HS.out _ (Below.refl _ w6).drew
  have hp3 : p.size ≤ 3000 := by omega
  have hn3 : n.size ≤ 3000 := by omega
  go_region_held3 (fun W => Below w6.heap.size w6 W ∧ W.cell? ⟨w.heap.size, 1, none⟩ = some (.string n) ∧ W.cell? ⟨w.heap.size, 3, none⟩ = some (.string p) ∧ W.cell? ⟨KB, 0, none⟩ = some (.int .i64 1) ∧ W.cell? ⟨KB, 1, none⟩ = some (.string n) ∧ W.cell? ⟨KB, 2, none⟩ = some (.string l) ∧ W.cell? ⟨KB, 3, none⟩ = some (.string p) ∧ W.cell? ⟨KB, 4, none⟩ = some (.string u) ∧ W.cell? ⟨KB, 5, none⟩ = some (.string r) ∧ W.cell? ⟨KB, 6, none⟩ = some (.int .u8 ty) ∧ W.cell? ⟨KB, 7, none⟩ = some (.int .i64 a) ∧ W.cell? ⟨KB, 8, none⟩ = some (.int .i64 b) ∧ W.cell? ⟨KB, 9, none⟩ = some (.int .i64 c) ∧ W.cell? ⟨KB, 10, none⟩ = some (.int .i64 d) ∧ W.cell? ⟨KB, 11, none⟩ = some (.int .i64 m)) (first | assumption | go_keep) (first | (go_at_call 11; refine (full_w _ _ _ _ _ _ _ _ _ _ _ _ _ hp3 hn3).mono ?_; rintro e wa ⟨rfl, ba⟩; have hsa := HS.out wa (held_step (by assumption) ba); clear ba))
  have HB7 : Hid (Below w6.heap.size w6 wa) := hsa.1
  have hb57 : Below w5.heap.size w5 wa := by
    have h1 := HB6.out
    rw [← HKB.out] at h1
    exact h1.trans (HB7.out.mono h1.size)
  have HO7 : Hid (Own w1 wa g z) := HO5.out.grow hb57
  have HH7 : Hid (wa.heap[KB]? = some (.cells #[.int .i64 1, .string n, .string l, .string p, .string u, .string r, .int .u8 ty, .int .i64 a, .int .i64 b, .int .i64 c, .int .i64 d, .int .i64 m] 25 (0, 0))) := HH6.out _ HB7.out
  have HBw5 : Below w.heap.size w w5 := HB0.out.trans (HB5.out.mono HB0.out.size)
  have HBw7 : Hid (Below w.heap.size w wa) := HBw5.trans (hb57.mono HBw5.size)
  clear HBw5 hb57 h0 hsa
  by_cases hin : 0 ≤ k ∧ k ≤ 156 ∧ ¬ (148 ≤ k ∧ k < 156) ∧ ¬ turn = 0
  · obtain ⟨i0, i1, i2, i3⟩ := hin
    obtain ⟨j, rfl⟩ := Int.eq_ofNat_of_zero_le i0
    have hj : j < 512 := by omega
    have ho := byte_at z HA.out j
    have hx := xor_byte (z[j]?.getD 0) turn ho ht
    have hxx := xor_back (z[j]?.getD 0) turn ho ht
    have HA8 : Hid (AllB (z.set j (bits .xor .u8 (z[j]?.getD 0) turn))) := allB_set _ HA.out _ _ hx.1
    have HL8 : Hid ((z.set j (bits .xor .u8 (z[j]?.getD 0) turn)).length = 512) := by show _ = _; rw [List.length_set, HL.out]
    have HA9 : Hid (AllB (sealL (z.set j (bits .xor .u8 (z[j]?.getD 0) turn)))) := sealL_allB _ HA8.out
    have HL9 : Hid ((sealL (z.set j (bits .xor .u8 (z[j]?.getD 0) turn))).length = 512) := sealL_length _ HL8.out
    have HR9 : Hid (rightB (sealL (z.set j (bits .xor .u8 (z[j]?.getD 0) turn))) = true) := sealL_right _ HL8.out HA8.out
    have HX : Hid _ := hX j hj (by omega) (bits .xor .u8 (z[j]?.getD 0) turn) hx.1
    have c7 := HO7.out.cell j (by rw [HL.out]; exact hj)
    have f7 := HO7.out.frozen j
    have O8 := HO7.out.set j (by rw [HL.out]; exact hj) (bits .xor .u8 (z[j]?.getD 0) turn)
    have hgK : g < KB := by have := HO5.out.lt; rw [HKB.out] at this; exact this
    have HH8 : Hid ((wa.setCell ⟨g, j, none⟩ (.int .u8 (bits .xor .u8 (z[j]?.getD 0) turn))).heap[KB]? = some (.cells #[.int .i64 1, .string n, .string l, .string p, .string u, .string r, .int .u8 ty, .int .i64 a, .int .i64 b, .int .i64 c, .int .i64 d, .int .i64 m] 25 (0, 0))) := by show _ = _; rw [Below.heap_setCell _ _ _ _ (by show KB ≠ g; omega)]; exact HH7.out
    have HB8 : Hid (Below w.heap.size w (wa.setCell ⟨g, j, none⟩ (.int .u8 (bits .xor .u8 (z[j]?.getD 0) turn)))) := HBw7.out.setCell (by have := HO7.out.ge; have := HB1.out.size; show w.heap.size ≤ g; omega) _
    have q12 := seal_yes ⟨g, 0, none⟩ 512 _ _ HA8 HL8 O8.src
    have HO8 : Hid _ := O8
    clear O8 hX
    have hb1 := hx.1
    have hxne := hx.2 i3
    clear hx
    obtain ⟨hv0, hv1⟩ := hb1
    generalize hz : z[j]?.getD 0 = zj at *
    have HZ : Hid (z[j]?.getD 0 = zj) := hz
    clear hz
    have j1 : (j : Int) ≤ 156 := by omega
    have i3b : (turn == 0) = false := by simpa using i3
    have jc : (¬ (148 : Int) ≤ (j : Int)) ∨ ((148 : Int) ≤ (j : Int) ∧ ¬ (j : Int) < 156) := by omega
    clear i2
    rcases jc with h148 | ⟨h148, h156⟩
    all_goals
      go_wp2_with (go_at_call 12; refine q12.mono ?_; rintro e w9 ⟨g9, rfl, O9⟩; have HO9 : Hid _ := O9; clear O9 q12)
      have HB9 : Hid (Below w.heap.size w w9) := HB8.out.trans (HO9.out.below.mono HB8.out.size)
      have q6b := dec_yes ⟨g9, 0, none⟩ 512 _ w9 HA9 HL9 (by omega) (by omega) HO9.out.src HR9.out (L.grow HB9.out)
      refine q6b.mono ?_
      rintro e w10 ⟨h10, b10⟩
      have HB10 : Hid (Below w.heap.size w w10) := HB9.out.trans (b10.mono HB9.out.size)
      have HH10 : Hid (w10.heap[KB]? = some (.cells #[.int .i64 1, .string n, .string l, .string p, .string u, .string r, .int .u8 ty, .int .i64 a, .int .i64 b, .int .i64 c, .int .i64 d, .int .i64 m] 25 (0, 0))) := by
        show _ = _
        have h8 := HH8.out
        have hlt := lt_of_heap h8
        have h9 := HO9.out.below.block KB hlt
        rw [← h9] at h8
        rw [b10.block KB (lt_of_heap h8)]
        exact h8
      have hK10 : KB < w10.heap.size := lt_of_heap HH10.out
      have c10 : w10.cell? ⟨g, j, none⟩ = some (.int .u8 (bits .xor .u8 zj turn)) := by
        have h8 := HO8.out.cell j (by rw [HL8.out]; exact hj)
        rw [show (z.set j (bits .xor .u8 zj turn))[j]?.getD 0 = bits .xor .u8 zj turn by rw [List.getElem?_set_self (by rw [HL.out]; exact hj)]; rfl] at h8
        exact cell_grow (cell_grow h8 HO9.out.below) b10
      have hg10 : g < w10.heap.size := World.block_lt_of_cell? w10 _ c10
      have k0 := kcell HH10.out 0 _ rfl; have k1 := kcell HH10.out 1 _ rfl; have k2 := kcell HH10.out 2 _ rfl; have k3 := kcell HH10.out 3 _ rfl; have k4 := kcell HH10.out 4 _ rfl; have k5 := kcell HH10.out 5 _ rfl; have k6 := kcell HH10.out 6 _ rfl; have k7 := kcell HH10.out 7 _ rfl; have k8 := kcell HH10.out 8 _ rfl; have k9 := kcell HH10.out 9 _ rfl; have k10 := kcell HH10.out 10 _ rfl; have k11 := kcell HH10.out 11 _ rfl
      clear q6b
      rcases HX.out e h10 with ⟨code, hc, rfl⟩ | ⟨f', n', l', p', u', r', ty', a', b', c', d', m', rfl, hnm⟩
      · have hc2 : (code != 0) = true := by simpa using hc
        clear h10
        go_wp2
        all_goals go_ret
        all_goals exact ⟨by first | rfl | simp, HB10.out.alloc HB10.out.size _⟩
      · clear h10
        by_cases h2 : j < 100 ∧ zj ≠ 0 ∧ bits .xor .u8 zj turn ≠ 0
        · have hne := hnm h2.1 h2.2.1 h2.2.2 hxne
          clear hnm h2
          go_wp2
          all_goals go_ret
          all_goals exact ⟨by first | rfl | simp, HB10.out.alloc HB10.out.size _⟩
        · clear hnm
          have h3 : 100 ≤ (j : Int) ∨ zj = 0 ∨ bits .xor .u8 zj turn = 0 := by omega
          clear h2
          obtain ⟨B, hB⟩ := eq25 1 n l p u r ty a b c d m f' n' l' p' u' r' ty' a' b' c' d' m'
          cases B
          · go_wp2
            all_goals go_ret
            all_goals exact ⟨by first | rfl | simp, HB10.out.alloc HB10.out.size _⟩
          · by_cases hz0 : zj = 0
            · have z0 : (zj == 0) = true := by simpa using hz0
              clear h3 hz0
              go_wp2
              all_goals go_ret
              all_goals exact ⟨by first | rfl | simp, HB10.out.alloc HB10.out.size _⟩
            · have z0 : (zj == 0) = false := by simpa using hz0
              by_cases hv : bits .xor .u8 zj turn = 0
              · have z1 : (bits .xor .u8 zj turn == 0) = true := by simpa using hv
                clear h3 hz0 hv
                go_wp2
                all_goals go_ret
                all_goals exact ⟨by first | rfl | simp, HB10.out.alloc HB10.out.size _⟩
              · have z1 : (bits .xor .u8 zj turn == 0) = false := by simpa using hv
                have h4 : 100 ≤ (j : Int) := by
                  rcases h3 with h | h | h
                  · exact h
                  · exact absurd h hz0
                  · exact absurd h hv
                clear h3 hz0 hv
                go_wp2
                all_goals go_ret
                all_goals exact ⟨by first | rfl | simp, HB10.out.alloc HB10.out.size _⟩
  · have hout : k < 0 ∨ 156 < k ∨ (148 ≤ k ∧ k < 156) ∨ turn = 0 := by omega
    clear hX
    by_cases o1 : k < 0
    · go_wp2
      all_goals go_ret
      all_goals exact ⟨by first | rfl | simp, HBw7.out⟩
    by_cases o2 : 156 < k
    · go_wp2
      all_goals go_ret
      all_goals exact ⟨by first | rfl | simp, HBw7.out⟩
    by_cases o3 : 148 ≤ k
    · by_cases o4 : k < 156
      · go_wp2
        all_goals go_ret
        all_goals exact ⟨by first | rfl | simp, HBw7.out⟩
      · obtain rfl : turn = 0 := by omega
        go_wp2
        all_goals go_ret
        all_goals exact ⟨by first | rfl | simp, HBw7.out⟩
    · obtain rfl : turn = 0 := by omega
      go_wp2
      all_goals go_ret
      all_goals exact ⟨by first | rfl | simp, HBw7.out⟩

end Go.Proofs.YtmholjjicklnhacDoor
