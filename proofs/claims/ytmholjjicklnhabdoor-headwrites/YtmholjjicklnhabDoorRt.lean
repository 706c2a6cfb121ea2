/-
  Plain: what stands in the block of a header that was written, field by field: read it is that header.
-/
import Derived.Test.YtmholjjicklnhabDoorOdd0
namespace Go.Proofs.YtmholjjicklnhabDoor
open Go.RowKit
set_option linter.unusedVariables false

def gD (zs : List Int) (i : Nat) : Int := zs[i]?.getD 0

theorem gD_splice (zs cs : List Int) (o i : Nat) (h : o + cs.length ≤ zs.length) : gD (splice zs o cs) i = if o ≤ i ∧ i < o + cs.length then gD cs (i - o) else gD zs i := by
  unfold gD splice
  have ht : (zs.take o).length = o := by rw [List.length_take]; omega
  by_cases h1 : i < o
  · rw [if_neg (by omega), List.getElem?_append_left (by omega), List.getElem?_take_of_lt h1]
  · rw [List.getElem?_append_right (by omega), ht]
    by_cases h2 : i < o + cs.length
    · rw [if_pos (by omega), List.getElem?_append_left (by omega)]
    · rw [if_neg (by omega), List.getElem?_append_right (by omega), List.getElem?_drop, show o + cs.length + (i - o - cs.length) = i by omega]

theorem gD_set (zs : List Int) (k i : Nat) (v : Int) (h : k < zs.length) : gD (zs.set k v) i = if i = k then v else gD zs i := by
  unfold gD
  rw [List.getElem?_set]
  by_cases c : k = i
  · subst c; simp [h]
  · rw [if_neg c, if_neg (by omega)]

theorem gD_seal (zs : List Int) (h : zs.length = 512) (i : Nat) (hi : ¬ (148 ≤ i ∧ i < 156)) : gD (sealL zs) i = gD zs i := by
  unfold gD
  rw [show (sealL zs)[i]? = zs[i]? from putL_out zs _ h (endF_length _) i hi]

theorem fld_gD (zs : List Int) (c d : Nat) (h : d ≤ zs.length) (hc : c ≤ d) (cs : List Int) (k : Nat) (hk : cs.length + k = d - c) (h1 : ∀ i, i < cs.length → gD zs (c + i) = gD cs i) (h2 : ∀ i, i < k → gD zs (c + cs.length + i) = 0) : fld zs c d = cs ++ List.replicate k 0 := by
  apply List.ext_getElem?
  intro i
  by_cases hi : i < d - c
  · have e1 : (fld zs c d)[i]? = some (gD zs (c + i)) := by
      unfold fld gD
      rw [List.getElem?_take_of_lt hi, List.getElem?_drop, List.getElem?_eq_getElem (by omega)]
      rfl
    rw [e1]
    by_cases h3 : i < cs.length
    · rw [h1 i h3, List.getElem?_append_left h3]
      unfold gD
      rw [List.getElem?_eq_getElem h3]
      rfl
    · rw [List.getElem?_append_right (by omega), List.getElem?_replicate, if_pos (by omega)]
      have := h2 (i - cs.length) (by omega)
      rw [show c + cs.length + (i - cs.length) = c + i by omega] at this
      rw [this]
  · rw [List.getElem?_eq_none (by rw [fld_length _ _ _ h]; omega), List.getElem?_eq_none (by simp; omega)]

theorem gD_encN (ns : Nat → Int) (k : Nat) (hk : k < 5) (i : Nat) : gD (encN ns (k + 1)) i = if numB k ≤ i ∧ i < numE k then gD (numL (ns k) k) (i - numB k) else gD (encN ns k) i := by
  show gD (splice (encN ns k) (numB k) (numL (ns k) k)) i = _
  have f : numE k ≤ 512 ∧ numB k ≤ numE k := by unfold numE numB; split <;> decide
  rw [gD_splice _ _ _ _ (by rw [numL_length, encN_length ns k (by omega)]; omega), numL_length, show numB k + (numE k - numB k) = numE k by omega]

theorem gD_zero (i : Nat) (ns : Nat → Int) : gD (encN ns 0) i = 0 := by
  unfold gD encN
  rw [List.getElem?_replicate]
  split <;> rfl

theorem gD_num (ns : Nat → Int) (j : Nat) (hj : j < 5) (i : Nat) (h : numB j ≤ i ∧ i < numE j) : gD (encN ns 5) i = gD (numL (ns j) j) (i - numB j) := by
  have e4 := gD_encN ns 4 (by omega) i
  have e3 := gD_encN ns 3 (by omega) i
  have e2 := gD_encN ns 2 (by omega) i
  have e1 := gD_encN ns 1 (by omega) i
  have e0 := gD_encN ns 0 (by omega) i
  rcases (show j = 0 ∨ j = 1 ∨ j = 2 ∨ j = 3 ∨ j = 4 by omega) with rfl | rfl | rfl | rfl | rfl <;> simp only [numB, numE] at *
  · rw [e4, if_neg (by omega), e3, if_neg (by omega), e2, if_neg (by omega), e1, if_neg (by omega), e0, if_pos (by omega)]
  · rw [e4, if_neg (by omega), e3, if_neg (by omega), e2, if_neg (by omega), e1, if_pos (by omega)]
  · rw [e4, if_neg (by omega), e3, if_neg (by omega), e2, if_pos (by omega)]
  · rw [e4, if_neg (by omega), e3, if_pos (by omega)]
  · rw [e4, if_pos (by omega)]

theorem gD_none (ns : Nat → Int) (i : Nat) (h : ¬ (100 ≤ i ∧ i < 148)) : gD (encN ns 5) i = 0 := by
  have e4 := gD_encN ns 4 (by omega) i
  have e3 := gD_encN ns 3 (by omega) i
  have e2 := gD_encN ns 2 (by omega) i
  have e1 := gD_encN ns 1 (by omega) i
  have e0 := gD_encN ns 0 (by omega) i
  simp only [numB, numE] at *
  rw [e4, if_neg (by omega), e3, if_neg (by omega), e2, if_neg (by omega), e1, if_neg (by omega), e0, if_neg (by omega), gD_zero]

theorem gD_encL (n l p u r : ByteArray) (ty : Int) (ns : Nat → Int) (h : textsB n l p u r = true) (i : Nat) : gD (encL n l p u r ty ns) i =
    if i = 156 then ty else if 345 ≤ i ∧ i < 345 + p.size then gD (s8 p) (i - 345) else if 297 ≤ i ∧ i < 297 + r.size then gD (s8 r) (i - 297) else if 265 ≤ i ∧ i < 265 + u.size then gD (s8 u) (i - 265) else if 257 ≤ i ∧ i < 265 then gD (s8 ustarS) (i - 257) else if 157 ≤ i ∧ i < 157 + l.size then gD (s8 l) (i - 157) else if 0 ≤ i ∧ i < 0 + n.size then gD (s8 n) (i - 0) else gD (encN ns 5) i := by
  have s := texts_sizes h
  have z0 := encN_length ns 5 (by omega)
  have hu : (s8 ustarS).length = 8 := rfl
  unfold encL
  have k1 : 0 + (s8 n).length ≤ (encN ns 5).length := by rw [s8_length, z0]; omega
  have z1 : (splice (encN ns 5) 0 (s8 n)).length = 512 := by rw [length_splice _ _ _ k1, z0]
  have g1 := gD_splice (encN ns 5) (s8 n) 0 i k1
  generalize splice (encN ns 5) 0 (s8 n) = Z1 at *
  have k2 : 157 + (s8 l).length ≤ Z1.length := by rw [s8_length, z1]; omega
  have z2 : (splice Z1 157 (s8 l)).length = 512 := by rw [length_splice _ _ _ k2, z1]
  have g2 := gD_splice Z1 (s8 l) 157 i k2
  generalize splice Z1 157 (s8 l) = Z2 at *
  have k3 : 257 + (s8 ustarS).length ≤ Z2.length := by rw [hu, z2]; omega
  have z3 : (splice Z2 257 (s8 ustarS)).length = 512 := by rw [length_splice _ _ _ k3, z2]
  have g3 := gD_splice Z2 (s8 ustarS) 257 i k3
  generalize splice Z2 257 (s8 ustarS) = Z3 at *
  have k4 : 265 + (s8 u).length ≤ Z3.length := by rw [s8_length, z3]; omega
  have z4 : (splice Z3 265 (s8 u)).length = 512 := by rw [length_splice _ _ _ k4, z3]
  have g4 := gD_splice Z3 (s8 u) 265 i k4
  generalize splice Z3 265 (s8 u) = Z4 at *
  have k5 : 297 + (s8 r).length ≤ Z4.length := by rw [s8_length, z4]; omega
  have z5 : (splice Z4 297 (s8 r)).length = 512 := by rw [length_splice _ _ _ k5, z4]
  have g5 := gD_splice Z4 (s8 r) 297 i k5
  generalize splice Z4 297 (s8 r) = Z5 at *
  have k6 : 345 + (s8 p).length ≤ Z5.length := by rw [s8_length, z5]; omega
  have z6 : (splice Z5 345 (s8 p)).length = 512 := by rw [length_splice _ _ _ k6, z5]
  have g6 := gD_splice Z5 (s8 p) 345 i k6
  generalize splice Z5 345 (s8 p) = Z6 at *
  rw [gD_set Z6 156 i ty (by omega), g6, g5, g4, g3, g2, g1, hu]
  simp only [s8_length]

/-- a block that is that of a header but for its sum and its magic -/
structure HdOf (z : List Int) (n l p u r : ByteArray) (ty : Int) (ns : Nat → Int) : Prop where
  len : z.length = 512
  out : ∀ i, ¬ (148 ≤ i ∧ i < 156) → ¬ (257 ≤ i ∧ i < 265) → gD z i = gD (encL n l p u r ty ns) i
  fit : textsB n l p u r = true
  nums : ∀ k, k < 5 → numFit ns k = true

theorem s8_map (s : ByteArray) : (s8 s).map (fun n => UInt8.ofNat n.toNat) = s.data.toList := by
  unfold s8
  rw [List.map_map]
  conv => rhs; rw [← List.map_id s.data.toList]
  apply List.map_congr_left
  intro b _
  simp

theorem strOf_s8 (s : ByteArray) : strOf (s8 s) = s := (strOf_ext (s8_map s).symm).symm

theorem txt_pad (s : ByteArray) (k : Nat) (h : hasN s = false) : txt (s8 s ++ List.replicate k 0) = s8 s := by
  have h1 : txt (s8 s) = s8 s := by
    rcases idx_txt (s8 s) (s8_allB s) with ⟨_, h2⟩ | ⟨i, h2, _, _⟩
    · exact h2
    · rw [s8_map] at h2
      unfold hasN idx at h
      rw [h2] at h
      simp at h
  unfold txt at h1 ⊢
  rw [List.takeWhile_append, h1]
  cases k with
  | zero => simp
  | succ k => simp [List.replicate_succ]

theorem tx_pad {z : List Int} {s : ByteArray} {c d k : Nat} (hs : hasN s = false) (h : fld z c d = s8 s ++ List.replicate k 0) : tx z c d = s := by
  unfold tx textL
  rw [show ((c : Int).toNat) = c from rfl, show ((d : Int).toNat) = d from rfl, h, txt_pad s k hs, strOf_s8]

theorem texts_nul {n l p u r : ByteArray} (h : textsB n l p u r = true) : hasN n = false ∧ hasN l = false ∧ hasN p = false ∧ hasN u = false ∧ hasN r = false := by
  unfold textsB fitsT at h
  simp only [Bool.and_eq_true, Bool.not_eq_true'] at h
  exact ⟨h.1.1.1.1.2, h.1.1.1.2.2, h.1.1.2.2, h.1.2.2, h.2.2⟩

section
variable {z : List Int} {n l p u r : ByteArray} {ty : Int} {ns : Nat → Int}

theorem HdOf.name (h : HdOf z n l p u r ty ns) : tx z 0 100 = n := by
  have s := texts_sizes h.fit
  refine tx_pad (c := 0) (d := 100) (k := 100 - n.size) (texts_nul h.fit).1 (fld_gD z 0 100 (by rw [h.len]; omega) (by omega) (s8 n) _ (by rw [s8_length]; omega) (fun i hi => ?_) (fun i hi => ?_))
  · rw [s8_length] at hi
    rw [h.out _ (by omega) (by omega), gD_encL n l p u r ty ns h.fit, if_neg (by omega), if_neg (by omega), if_neg (by omega), if_neg (by omega), if_neg (by omega), if_neg (by omega), if_pos (by omega)]
    rw [show 0 + i - 0 = i by omega]
  · rw [s8_length, h.out _ (by omega) (by omega), gD_encL n l p u r ty ns h.fit, if_neg (by omega), if_neg (by omega), if_neg (by omega), if_neg (by omega), if_neg (by omega), if_neg (by omega), if_neg (by omega), gD_none _ _ (by omega)]

theorem HdOf.link (h : HdOf z n l p u r ty ns) : tx z 157 257 = l := by
  have s := texts_sizes h.fit
  refine tx_pad (c := 157) (d := 257) (k := 100 - l.size) (texts_nul h.fit).2.1 (fld_gD z 157 257 (by rw [h.len]; omega) (by omega) (s8 l) _ (by rw [s8_length]; omega) (fun i hi => ?_) (fun i hi => ?_))
  · rw [s8_length] at hi
    rw [h.out _ (by omega) (by omega), gD_encL n l p u r ty ns h.fit, if_neg (by omega), if_neg (by omega), if_neg (by omega), if_neg (by omega), if_neg (by omega), if_pos (by omega)]
    rw [show 157 + i - 157 = i by omega]
  · rw [s8_length, h.out _ (by omega) (by omega), gD_encL n l p u r ty ns h.fit, if_neg (by omega), if_neg (by omega), if_neg (by omega), if_neg (by omega), if_neg (by omega), if_neg (by omega), if_neg (by omega), gD_none _ _ (by omega)]

theorem HdOf.prefx (h : HdOf z n l p u r ty ns) : tx z 345 500 = p := by
  have s := texts_sizes h.fit
  refine tx_pad (c := 345) (d := 500) (k := 155 - p.size) (texts_nul h.fit).2.2.1 (fld_gD z 345 500 (by rw [h.len]; omega) (by omega) (s8 p) _ (by rw [s8_length]; omega) (fun i hi => ?_) (fun i hi => ?_))
  · rw [s8_length] at hi
    rw [h.out _ (by omega) (by omega), gD_encL n l p u r ty ns h.fit, if_neg (by omega), if_pos (by omega)]
    rw [show 345 + i - 345 = i by omega]
  · rw [s8_length, h.out _ (by omega) (by omega), gD_encL n l p u r ty ns h.fit, if_neg (by omega), if_neg (by omega), if_neg (by omega), if_neg (by omega), if_neg (by omega), if_neg (by omega), if_neg (by omega), gD_none _ _ (by omega)]

theorem HdOf.user (h : HdOf z n l p u r ty ns) : tx z 265 297 = u := by
  have s := texts_sizes h.fit
  refine tx_pad (c := 265) (d := 297) (k := 32 - u.size) (texts_nul h.fit).2.2.2.1 (fld_gD z 265 297 (by rw [h.len]; omega) (by omega) (s8 u) _ (by rw [s8_length]; omega) (fun i hi => ?_) (fun i hi => ?_))
  · rw [s8_length] at hi
    rw [h.out _ (by omega) (by omega), gD_encL n l p u r ty ns h.fit, if_neg (by omega), if_neg (by omega), if_neg (by omega), if_pos (by omega)]
    rw [show 265 + i - 265 = i by omega]
  · rw [s8_length, h.out _ (by omega) (by omega), gD_encL n l p u r ty ns h.fit, if_neg (by omega), if_neg (by omega), if_neg (by omega), if_neg (by omega), if_neg (by omega), if_neg (by omega), if_neg (by omega), gD_none _ _ (by omega)]

theorem HdOf.group (h : HdOf z n l p u r ty ns) : tx z 297 329 = r := by
  have s := texts_sizes h.fit
  refine tx_pad (c := 297) (d := 329) (k := 32 - r.size) (texts_nul h.fit).2.2.2.2 (fld_gD z 297 329 (by rw [h.len]; omega) (by omega) (s8 r) _ (by rw [s8_length]; omega) (fun i hi => ?_) (fun i hi => ?_))
  · rw [s8_length] at hi
    rw [h.out _ (by omega) (by omega), gD_encL n l p u r ty ns h.fit, if_neg (by omega), if_neg (by omega), if_pos (by omega)]
    rw [show 297 + i - 297 = i by omega]
  · rw [s8_length, h.out _ (by omega) (by omega), gD_encL n l p u r ty ns h.fit, if_neg (by omega), if_neg (by omega), if_neg (by omega), if_neg (by omega), if_neg (by omega), if_neg (by omega), if_neg (by omega), gD_none _ _ (by omega)]

theorem HdOf.type (h : HdOf z n l p u r ty ns) : z[156]?.getD 0 = ty := by
  have := h.out 156 (by omega) (by omega)
  rw [gD_encL n l p u r ty ns h.fit, if_pos rfl] at this
  exact this

theorem HdOf.num (h : HdOf z n l p u r ty ns) (j : Nat) (hj : j < 5) : fld z (numB j) (numE j) = numL (ns j) j := by
  have s := texts_sizes h.fit
  have f : 100 ≤ numB j ∧ numE j ≤ 148 ∧ numB j ≤ numE j := by
    rcases (show j = 0 ∨ j = 1 ∨ j = 2 ∨ j = 3 ∨ j = 4 by omega) with rfl | rfl | rfl | rfl | rfl <;> decide
  have := fld_gD z (numB j) (numE j) (by rw [h.len]; omega) (by omega) (numL (ns j) j) 0 (by rw [numL_length]; omega) (fun i hi => ?_) (fun i hi => by omega)
  · rw [this]; simp
  · rw [numL_length] at hi
    rw [h.out _ (by omega) (by omega), gD_encL n l p u r ty ns h.fit, if_neg (by omega), if_neg (by omega), if_neg (by omega), if_neg (by omega), if_neg (by omega), if_neg (by omega), if_neg (by omega), gD_num ns j hj _ (by omega)]
    rw [show numB j + i - numB j = i by omega]

end

theorem parse_numL (x : Int) (j : Nat) (hj : j < 5) (h1 : x ≤ 9223372036854775807) (hf : fitsB x ((numE j - numB j : Nat) : Int) = true) : parseO (numL x j) = some x := by
  have hw : numE j - numB j = 8 ∨ numE j - numB j = 12 := by
    rcases (show j = 0 ∨ j = 1 ∨ j = 2 ∨ j = 3 ∨ j = 4 by omega) with rfl | rfl | rfl | rfl | rfl <;> decide
  have hb := (fits_iff x _ h1 (by omega)).1 hf
  unfold numL
  rcases hw with e | e
  · rw [e] at hb ⊢
    rw [show 8 - 1 = 6 + 1 from rfl, parseO_octs x 6 [0] hb.1 hb.2 h1]
    simp [dgo, dstep]
  · rw [e] at hb ⊢
    rw [show 12 - 1 = 10 + 1 from rfl, parseO_octs x 10 [0] hb.1 hb.2 h1]
    simp [dgo, dstep]

section
variable {z : List Int} {n l p u r : ByteArray} {ty : Int} {ns : Nat → Int}

theorem HdOf.eN (h : HdOf z n l p u r ty ns) (hr : ∀ j, j < 5 → ns j ≤ 9223372036854775807) (j : Nat) (hj : j < 5) : eN z j = 0 ∧ vN z j = ns j := by
  have := h.num j hj
  unfold Go.Proofs.YtmholjjicklnhabDoor.eN vN
  rw [this, parse_numL (ns j) j hj (hr j hj) (h.nums j hj)]
  exact ⟨rfl, rfl⟩

end

/-- the block that Encode gives -/
theorem hdOf_enc (n l p u r : ByteArray) (ty : Int) (ns : Nat → Int) (hf : textsB n l p u r = true) (hn : ∀ k, k < 5 → numFit ns k = true) : HdOf (sealL (encL n l p u r ty ns)) n l p u r ty ns := by
  have hl := encL_length n l p u r ty ns hf
  exact ⟨sealL_length _ hl, fun i h1 _ => gD_seal _ hl i h1, hf, hn⟩

/-- its magic -/
theorem enc_magic (n l p u r : ByteArray) (ty : Int) (ns : Nat → Int) (hf : textsB n l p u r = true) : fld (sealL (encL n l p u r ty ns)) 257 265 = ustarL := by
  have hl := encL_length n l p u r ty ns hf
  have s := texts_sizes hf
  have hz := sealL_length _ hl
  have := fld_gD (sealL (encL n l p u r ty ns)) 257 265 (by rw [hz]; omega) (by omega) ustarL 0 rfl (fun i hi => ?_) (fun i hi => by omega)
  · rw [this]; simp
  · have hi' : i < 8 := hi
    rw [gD_seal _ hl _ (by omega), gD_encL n l p u r ty ns hf, if_neg (by omega), if_neg (by omega), if_neg (by omega), if_neg (by omega), if_pos (by omega), show 257 + i - 257 = i by omega]
    rfl

/-- the block with another magic, sealed anew -/
theorem hdOf_magic (n l p u r : ByteArray) (ty : Int) (ns : Nat → Int) (hf : textsB n l p u r = true) (hn : ∀ k, k < 5 → numFit ns k = true) (M : List Int) (hM : M.length = 8) :
    HdOf (sealL (splice (sealL (encL n l p u r ty ns)) 257 M)) n l p u r ty ns ∧ fld (sealL (splice (sealL (encL n l p u r ty ns)) 257 M)) 257 265 = M := by
  have hl := encL_length n l p u r ty ns hf
  have h1 := sealL_length _ hl
  have hk : 257 + M.length ≤ (sealL (encL n l p u r ty ns)).length := by rw [h1]; omega
  have h2 : (splice (sealL (encL n l p u r ty ns)) 257 M).length = 512 := by rw [length_splice _ _ _ hk, h1]
  refine ⟨⟨sealL_length _ h2, fun i a b => ?_, hf, hn⟩, ?_⟩
  · rw [gD_seal _ h2 i a, gD_splice _ _ _ _ hk, if_neg (by omega), gD_seal _ hl i a]
  · have := fld_gD (sealL (splice (sealL (encL n l p u r ty ns)) 257 M)) 257 265 (by rw [sealL_length _ h2]; omega) (by omega) M 0 (by omega) (fun i hi => ?_) (fun i hi => by omega)
    · rw [this]; simp
    · rw [gD_seal _ h2 _ (by omega), gD_splice _ _ _ _ hk, if_pos (by omega)]
      rw [show 257 + i - 257 = i by omega]

end Go.Proofs.YtmholjjicklnhabDoor
