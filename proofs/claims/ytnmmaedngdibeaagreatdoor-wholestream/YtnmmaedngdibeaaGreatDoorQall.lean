/-
  Texts in one: HOd, HRt, Qa, Qb, Qc, Qd, Qe, Qf, Qg, Qz, Qh, Qi, Qk, Ql.
-/
import Derived.Test.YtnmmaedngdibeaaGreatDoorHDec2
import Derived.Test.YtnmmaedngdibeaaGreatDoorHEnc
import Derived.Test.YtnmmaedngdibeaaGreatDoorPall
import Derived.Maps.AppendAt
import Derived.Lib.LazyBuf
import Derived.Laws.AppendOwnNone
import Derived.Deep.LoopGhost
import Derived.Deep.DeepCutAuto
import Derived.Deep.CutBlock
import Derived.Lib.AppendZerosOnto
import Derived.Lib.AppendStr
namespace Go.Proofs.YtnmmaedngdibeaaGreatDoor.H
open Go.RowKit
set_option linter.unusedVariables false

theorem encL_length (n l p u r : ByteArray) (ty : Int) (ns : Nat → Int) (h : textsB n l p u r = true) : (encL n l p u r ty ns).length = 512 := by
  have s := texts_sizes h
  have z0 := encN_length ns 5 (by omega)
  unfold encL
  rw [List.length_set]
  have z1 : (splice (encN ns 5) 0 (s8 n)).length = 512 := by rw [length_splice _ _ _ (by rw [s8_length, z0]; omega), z0]
  generalize splice (encN ns 5) 0 (s8 n) = Z1 at *
  have z2 : (splice Z1 157 (s8 l)).length = 512 := by rw [length_splice _ _ _ (by rw [s8_length, z1]; omega), z1]
  generalize splice Z1 157 (s8 l) = Z2 at *
  have z3 : (splice Z2 257 (s8 ustarS)).length = 512 := by rw [length_splice _ _ _ (by rw [s8_length, z2]; show 257 + 8 ≤ 512; omega), z2]
  generalize splice Z2 257 (s8 ustarS) = Z3 at *
  have z4 : (splice Z3 265 (s8 u)).length = 512 := by rw [length_splice _ _ _ (by rw [s8_length, z3]; omega), z3]
  generalize splice Z3 265 (s8 u) = Z4 at *
  have z5 : (splice Z4 297 (s8 r)).length = 512 := by rw [length_splice _ _ _ (by rw [s8_length, z4]; omega), z4]
  generalize splice Z4 297 (s8 r) = Z5 at *
  rw [length_splice _ _ _ (by rw [s8_length, z5]; omega), z5]

theorem encL_allB (n l p u r : ByteArray) (ty : Int) (ns : Nat → Int) (hty : 0 ≤ ty ∧ ty ≤ 255) : AllB (encL n l p u r ty ns) := by
  intro z hz
  unfold encL at hz
  rcases List.mem_or_eq_of_mem_set hz with h | rfl
  · exact allB_splice _ _ _ (allB_splice _ _ _ (allB_splice _ _ _ (allB_splice _ _ _ (allB_splice _ _ _ (allB_splice _ _ _ (encN_allB ns 5) (s8_allB _)) (s8_allB _)) (s8_allB _)) (s8_allB _)) (s8_allB _)) (s8_allB _) z h
  · exact hty
end Go.Proofs.YtnmmaedngdibeaaGreatDoor.H

namespace Go.Proofs.YtnmmaedngdibeaaGreatDoor.H
open Go.RowKit
set_option linter.unusedVariables false

def gD (zs : List Int) (i : Nat) : Int := zs[i]?.getD 0

theorem gD_splice (zs cs : List Int) (o i : Nat) (h : o + cs.length ≤ zs.length) : gD (splice zs o cs) i = if o ≤ i ∧ i < o + cs.length then gD cs (i - o) else gD zs i := by
  unfold gD splice
  have ht : (zs.take o).length = o := by rw [List.length_take]; omega
  by_cases h1 : i < o
  · rw [if_neg (by omega), List.getElem?_append_left (by omega), List.getElem?_take_of_lt h1]
  · rw [List.getElem?_append_right (by omega), ht]
    by_cases h2 : i < o + cs.length
    · rw [if_pos (by omega), List.getElem?_append_left (by omega)]
    · rw [if_neg (by omega), List.getElem?_append_right (by omega), List.getElem?_drop, show o + cs.length + (i - o - cs.length) = i by omega]

theorem gD_set (zs : List Int) (k i : Nat) (v : Int) (h : k < zs.length) : gD (zs.set k v) i = if i = k then v else gD zs i := by
  unfold gD
  rw [List.getElem?_set]
  by_cases c : k = i
  · subst c; simp [h]
  · rw [if_neg c, if_neg (by omega)]

theorem gD_seal (zs : List Int) (h : zs.length = 512) (i : Nat) (hi : ¬ (148 ≤ i ∧ i < 156)) : gD (sealL zs) i = gD zs i := by
  unfold gD
  rw [show (sealL zs)[i]? = zs[i]? from putL_out zs _ h (endF_length _) i hi]

theorem fld_gD (zs : List Int) (c d : Nat) (h : d ≤ zs.length) (hc : c ≤ d) (cs : List Int) (k : Nat) (hk : cs.length + k = d - c) (h1 : ∀ i, i < cs.length → gD zs (c + i) = gD cs i) (h2 : ∀ i, i < k → gD zs (c + cs.length + i) = 0) : fld zs c d = cs ++ List.replicate k 0 := by
  apply List.ext_getElem?
  intro i
  by_cases hi : i < d - c
  · have e1 : (fld zs c d)[i]? = some (gD zs (c + i)) := by
      unfold fld gD
      rw [List.getElem?_take_of_lt hi, List.getElem?_drop, List.getElem?_eq_getElem (by omega)]
      rfl
    rw [e1]
    by_cases h3 : i < cs.length
    · rw [h1 i h3, List.getElem?_append_left h3]
      unfold gD
      rw [List.getElem?_eq_getElem h3]
      rfl
    · rw [List.getElem?_append_right (by omega), List.getElem?_replicate, if_pos (by omega)]
      have := h2 (i - cs.length) (by omega)
      rw [show c + cs.length + (i - cs.length) = c + i by omega] at this
      rw [this]
  · rw [List.getElem?_eq_none (by rw [fld_length _ _ _ h]; omega), List.getElem?_eq_none (by simp; omega)]

theorem gD_encN (ns : Nat → Int) (k : Nat) (hk : k < 5) (i : Nat) : gD (encN ns (k + 1)) i = if numB k ≤ i ∧ i < numE k then gD (numL (ns k) k) (i - numB k) else gD (encN ns k) i := by
  show gD (splice (encN ns k) (numB k) (numL (ns k) k)) i = _
  have f : numE k ≤ 512 ∧ numB k ≤ numE k := by unfold numE numB; split <;> decide
  rw [gD_splice _ _ _ _ (by rw [numL_length, encN_length ns k (by omega)]; omega), numL_length, show numB k + (numE k - numB k) = numE k by omega]

theorem gD_zero (i : Nat) (ns : Nat → Int) : gD (encN ns 0) i = 0 := by
  unfold gD encN
  rw [List.getElem?_replicate]
  split <;> rfl

theorem gD_num (ns : Nat → Int) (j : Nat) (hj : j < 5) (i : Nat) (h : numB j ≤ i ∧ i < numE j) : gD (encN ns 5) i = gD (numL (ns j) j) (i - numB j) := by
  have e4 := gD_encN ns 4 (by omega) i
  have e3 := gD_encN ns 3 (by omega) i
  have e2 := gD_encN ns 2 (by omega) i
  have e1 := gD_encN ns 1 (by omega) i
  have e0 := gD_encN ns 0 (by omega) i
  rcases (show j = 0 ∨ j = 1 ∨ j = 2 ∨ j = 3 ∨ j = 4 by omega) with rfl | rfl | rfl | rfl | rfl <;> simp only [numB, numE] at *
  · rw [e4, if_neg (by omega), e3, if_neg (by omega), e2, if_neg (by omega), e1, if_neg (by omega), e0, if_pos (by omega)]
  · rw [e4, if_neg (by omega), e3, if_neg (by omega), e2, if_neg (by omega), e1, if_pos (by omega)]
  · rw [e4, if_neg (by omega), e3, if_neg (by omega), e2, if_pos (by omega)]
  · rw [e4, if_neg (by omega), e3, if_pos (by omega)]
  · rw [e4, if_pos (by omega)]

theorem gD_none (ns : Nat → Int) (i : Nat) (h : ¬ (100 ≤ i ∧ i < 148)) : gD (encN ns 5) i = 0 := by
  have e4 := gD_encN ns 4 (by omega) i
  have e3 := gD_encN ns 3 (by omega) i
  have e2 := gD_encN ns 2 (by omega) i
  have e1 := gD_encN ns 1 (by omega) i
  have e0 := gD_encN ns 0 (by omega) i
  simp only [numB, numE] at *
  rw [e4, if_neg (by omega), e3, if_neg (by omega), e2, if_neg (by omega), e1, if_neg (by omega), e0, if_neg (by omega), gD_zero]

theorem gD_encL (n l p u r : ByteArray) (ty : Int) (ns : Nat → Int) (h : textsB n l p u r = true) (i : Nat) : gD (encL n l p u r ty ns) i =
    if i = 156 then ty else if 345 ≤ i ∧ i < 345 + p.size then gD (s8 p) (i - 345) else if 297 ≤ i ∧ i < 297 + r.size then gD (s8 r) (i - 297) else if 265 ≤ i ∧ i < 265 + u.size then gD (s8 u) (i - 265) else if 257 ≤ i ∧ i < 265 then gD (s8 ustarS) (i - 257) else if 157 ≤ i ∧ i < 157 + l.size then gD (s8 l) (i - 157) else if 0 ≤ i ∧ i < 0 + n.size then gD (s8 n) (i - 0) else gD (encN ns 5) i := by
  have s := texts_sizes h
  have z0 := encN_length ns 5 (by omega)
  have hu : (s8 ustarS).length = 8 := rfl
  unfold encL
  have k1 : 0 + (s8 n).length ≤ (encN ns 5).length := by rw [s8_length, z0]; omega
  have z1 : (splice (encN ns 5) 0 (s8 n)).length = 512 := by rw [length_splice _ _ _ k1, z0]
  have g1 := gD_splice (encN ns 5) (s8 n) 0 i k1
  generalize splice (encN ns 5) 0 (s8 n) = Z1 at *
  have k2 : 157 + (s8 l).length ≤ Z1.length := by rw [s8_length, z1]; omega
  have z2 : (splice Z1 157 (s8 l)).length = 512 := by rw [length_splice _ _ _ k2, z1]
  have g2 := gD_splice Z1 (s8 l) 157 i k2
  generalize splice Z1 157 (s8 l) = Z2 at *
  have k3 : 257 + (s8 ustarS).length ≤ Z2.length := by rw [hu, z2]; omega
  have z3 : (splice Z2 257 (s8 ustarS)).length = 512 := by rw [length_splice _ _ _ k3, z2]
  have g3 := gD_splice Z2 (s8 ustarS) 257 i k3
  generalize splice Z2 257 (s8 ustarS) = Z3 at *
  have k4 : 265 + (s8 u).length ≤ Z3.length := by rw [s8_length, z3]; omega
  have z4 : (splice Z3 265 (s8 u)).length = 512 := by rw [length_splice _ _ _ k4, z3]
  have g4 := gD_splice Z3 (s8 u) 265 i k4
  generalize splice Z3 265 (s8 u) = Z4 at *
  have k5 : 297 + (s8 r).length ≤ Z4.length := by rw [s8_length, z4]; omega
  have z5 : (splice Z4 297 (s8 r)).length = 512 := by rw [length_splice _ _ _ k5, z4]
  have g5 := gD_splice Z4 (s8 r) 297 i k5
  generalize splice Z4 297 (s8 r) = Z5 at *
  have k6 : 345 + (s8 p).length ≤ Z5.length := by rw [s8_length, z5]; omega
  have z6 : (splice Z5 345 (s8 p)).length = 512 := by rw [length_splice _ _ _ k6, z5]
  have g6 := gD_splice Z5 (s8 p) 345 i k6
  generalize splice Z5 345 (s8 p) = Z6 at *
  rw [gD_set Z6 156 i ty (by omega), g6, g5, g4, g3, g2, g1, hu]
  simp only [s8_length]

/-- a block that is that of a header but for its sum and its magic -/
structure HdOf (z : List Int) (n l p u r : ByteArray) (ty : Int) (ns : Nat → Int) : Prop where
  len : z.length = 512
  out : ∀ i, ¬ (148 ≤ i ∧ i < 156) → ¬ (257 ≤ i ∧ i < 265) → gD z i = gD (encL n l p u r ty ns) i
  fit : textsB n l p u r = true
  nums : ∀ k, k < 5 → numFit ns k = true

theorem s8_map (s : ByteArray) : (s8 s).map (fun n => UInt8.ofNat n.toNat) = s.data.toList := by
  unfold s8
  rw [List.map_map]
  conv => rhs; rw [← List.map_id s.data.toList]
  apply List.map_congr_left
  intro b _
  simp

theorem strOf_s8 (s : ByteArray) : strOf (s8 s) = s := (strOf_ext (s8_map s).symm).symm

theorem txt_pad (s : ByteArray) (k : Nat) (h : hasN s = false) : txt (s8 s ++ List.replicate k 0) = s8 s := by
  have h1 : txt (s8 s) = s8 s := by
    rcases idx_txt (s8 s) (s8_allB s) with ⟨_, h2⟩ | ⟨i, h2, _, _⟩
    · exact h2
    · rw [s8_map] at h2
      unfold hasN idx at h
      rw [h2] at h
      simp at h
  unfold txt at h1 ⊢
  rw [List.takeWhile_append, h1]
  cases k with
  | zero => simp
  | succ k => simp [List.replicate_succ]

theorem tx_pad {z : List Int} {s : ByteArray} {c d k : Nat} (hs : hasN s = false) (h : fld z c d = s8 s ++ List.replicate k 0) : tx z c d = s := by
  unfold tx textL
  rw [show ((c : Int).toNat) = c from rfl, show ((d : Int).toNat) = d from rfl, h, txt_pad s k hs, strOf_s8]

theorem texts_nul {n l p u r : ByteArray} (h : textsB n l p u r = true) : hasN n = false ∧ hasN l = false ∧ hasN p = false ∧ hasN u = false ∧ hasN r = false := by
  unfold textsB fitsT at h
  simp only [Bool.and_eq_true, Bool.not_eq_true'] at h
  exact ⟨h.1.1.1.1.2, h.1.1.1.2.2, h.1.1.2.2, h.1.2.2, h.2.2⟩

section
variable {z : List Int} {n l p u r : ByteArray} {ty : Int} {ns : Nat → Int}

theorem HdOf.name (h : HdOf z n l p u r ty ns) : tx z 0 100 = n := by
  have s := texts_sizes h.fit
  refine tx_pad (c := 0) (d := 100) (k := 100 - n.size) (texts_nul h.fit).1 (fld_gD z 0 100 (by rw [h.len]; omega) (by omega) (s8 n) _ (by rw [s8_length]; omega) (fun i hi => ?_) (fun i hi => ?_))
  · rw [s8_length] at hi
    rw [h.out _ (by omega) (by omega), gD_encL n l p u r ty ns h.fit, if_neg (by omega), if_neg (by omega), if_neg (by omega), if_neg (by omega), if_neg (by omega), if_neg (by omega), if_pos (by omega)]
    rw [show 0 + i - 0 = i by omega]
  · rw [s8_length, h.out _ (by omega) (by omega), gD_encL n l p u r ty ns h.fit, if_neg (by omega), if_neg (by omega), if_neg (by omega), if_neg (by omega), if_neg (by omega), if_neg (by omega), if_neg (by omega), gD_none _ _ (by omega)]

theorem HdOf.link (h : HdOf z n l p u r ty ns) : tx z 157 257 = l := by
  have s := texts_sizes h.fit
  refine tx_pad (c := 157) (d := 257) (k := 100 - l.size) (texts_nul h.fit).2.1 (fld_gD z 157 257 (by rw [h.len]; omega) (by omega) (s8 l) _ (by rw [s8_length]; omega) (fun i hi => ?_) (fun i hi => ?_))
  · rw [s8_length] at hi
    rw [h.out _ (by omega) (by omega), gD_encL n l p u r ty ns h.fit, if_neg (by omega), if_neg (by omega), if_neg (by omega), if_neg (by omega), if_neg (by omega), if_pos (by omega)]
    rw [show 157 + i - 157 = i by omega]
  · rw [s8_length, h.out _ (by omega) (by omega), gD_encL n l p u r ty ns h.fit, if_neg (by omega), if_neg (by omega), if_neg (by omega), if_neg (by omega), if_neg (by omega), if_neg (by omega), if_neg (by omega), gD_none _ _ (by omega)]

theorem HdOf.prefx (h : HdOf z n l p u r ty ns) : tx z 345 500 = p := by
  have s := texts_sizes h.fit
  refine tx_pad (c := 345) (d := 500) (k := 155 - p.size) (texts_nul h.fit).2.2.1 (fld_gD z 345 500 (by rw [h.len]; omega) (by omega) (s8 p) _ (by rw [s8_length]; omega) (fun i hi => ?_) (fun i hi => ?_))
  · rw [s8_length] at hi
    rw [h.out _ (by omega) (by omega), gD_encL n l p u r ty ns h.fit, if_neg (by omega), if_pos (by omega)]
    rw [show 345 + i - 345 = i by omega]
  · rw [s8_length, h.out _ (by omega) (by omega), gD_encL n l p u r ty ns h.fit, if_neg (by omega), if_neg (by omega), if_neg (by omega), if_neg (by omega), if_neg (by omega), if_neg (by omega), if_neg (by omega), gD_none _ _ (by omega)]

theorem HdOf.user (h : HdOf z n l p u r ty ns) : tx z 265 297 = u := by
  have s := texts_sizes h.fit
  refine tx_pad (c := 265) (d := 297) (k := 32 - u.size) (texts_nul h.fit).2.2.2.1 (fld_gD z 265 297 (by rw [h.len]; omega) (by omega) (s8 u) _ (by rw [s8_length]; omega) (fun i hi => ?_) (fun i hi => ?_))
  · rw [s8_length] at hi
    rw [h.out _ (by omega) (by omega), gD_encL n l p u r ty ns h.fit, if_neg (by omega), if_neg (by omega), if_neg (by omega), if_pos (by omega)]
    rw [show 265 + i - 265 = i by omega]
  · rw [s8_length, h.out _ (by omega) (by omega), gD_encL n l p u r ty ns h.fit, if_neg (by omega), if_neg (by omega), if_neg (by omega), if_neg (by omega), if_neg (by omega), if_neg (by omega), if_neg (by omega), gD_none _ _ (by omega)]

theorem HdOf.group (h : HdOf z n l p u r ty ns) : tx z 297 329 = r := by
  have s := texts_sizes h.fit
  refine tx_pad (c := 297) (d := 329) (k := 32 - r.size) (texts_nul h.fit).2.2.2.2 (fld_gD z 297 329 (by rw [h.len]; omega) (by omega) (s8 r) _ (by rw [s8_length]; omega) (fun i hi => ?_) (fun i hi => ?_))
  · rw [s8_length] at hi
    rw [h.out _ (by omega) (by omega), gD_encL n l p u r ty ns h.fit, if_neg (by omega), if_neg (by omega), if_pos (by omega)]
    rw [show 297 + i - 297 = i by omega]
  · rw [s8_length, h.out _ (by omega) (by omega), gD_encL n l p u r ty ns h.fit, if_neg (by omega), if_neg (by omega), if_neg (by omega), if_neg (by omega), if_neg (by omega), if_neg (by omega), if_neg (by omega), gD_none _ _ (by omega)]

theorem HdOf.type (h : HdOf z n l p u r ty ns) : z[156]?.getD 0 = ty := by
  have := h.out 156 (by omega) (by omega)
  rw [gD_encL n l p u r ty ns h.fit, if_pos rfl] at this
  exact this

theorem HdOf.num (h : HdOf z n l p u r ty ns) (j : Nat) (hj : j < 5) : fld z (numB j) (numE j) = numL (ns j) j := by
  have s := texts_sizes h.fit
  have f : 100 ≤ numB j ∧ numE j ≤ 148 ∧ numB j ≤ numE j := by
    rcases (show j = 0 ∨ j = 1 ∨ j = 2 ∨ j = 3 ∨ j = 4 by omega) with rfl | rfl | rfl | rfl | rfl <;> decide
  have := fld_gD z (numB j) (numE j) (by rw [h.len]; omega) (by omega) (numL (ns j) j) 0 (by rw [numL_length]; omega) (fun i hi => ?_) (fun i hi => by omega)
  · rw [this]; simp
  · rw [numL_length] at hi
    rw [h.out _ (by omega) (by omega), gD_encL n l p u r ty ns h.fit, if_neg (by omega), if_neg (by omega), if_neg (by omega), if_neg (by omega), if_neg (by omega), if_neg (by omega), if_neg (by omega), gD_num ns j hj _ (by omega)]
    rw [show numB j + i - numB j = i by omega]

end

theorem parse_numL (x : Int) (j : Nat) (hj : j < 5) (h1 : x ≤ 9223372036854775807) (hf : fitsB x ((numE j - numB j : Nat) : Int) = true) : parseO (numL x j) = some x := by
  have hw : numE j - numB j = 8 ∨ numE j - numB j = 12 := by
    rcases (show j = 0 ∨ j = 1 ∨ j = 2 ∨ j = 3 ∨ j = 4 by omega) with rfl | rfl | rfl | rfl | rfl <;> decide
  have hb := (fits_iff x _ h1 (by omega)).1 hf
  unfold numL
  rcases hw with e | e
  · rw [e] at hb ⊢
    rw [show 8 - 1 = 6 + 1 from rfl, parseO_octs x 6 [0] hb.1 hb.2 h1]
    simp [dgo, dstep]
  · rw [e] at hb ⊢
    rw [show 12 - 1 = 10 + 1 from rfl, parseO_octs x 10 [0] hb.1 hb.2 h1]
    simp [dgo, dstep]

section
variable {z : List Int} {n l p u r : ByteArray} {ty : Int} {ns : Nat → Int}

theorem HdOf.eN (h : HdOf z n l p u r ty ns) (hr : ∀ j, j < 5 → ns j ≤ 9223372036854775807) (j : Nat) (hj : j < 5) : eN z j = 0 ∧ vN z j = ns j := by
  have := h.num j hj
  unfold Go.Proofs.YtnmmaedngdibeaaGreatDoor.H.eN vN
  rw [this, parse_numL (ns j) j hj (hr j hj) (h.nums j hj)]
  exact ⟨rfl, rfl⟩

end

/-- the block that Encode gives -/
theorem hdOf_enc (n l p u r : ByteArray) (ty : Int) (ns : Nat → Int) (hf : textsB n l p u r = true) (hn : ∀ k, k < 5 → numFit ns k = true) : HdOf (sealL (encL n l p u r ty ns)) n l p u r ty ns := by
  have hl := encL_length n l p u r ty ns hf
  exact ⟨sealL_length _ hl, fun i h1 _ => gD_seal _ hl i h1, hf, hn⟩

/-- its magic -/
theorem enc_magic (n l p u r : ByteArray) (ty : Int) (ns : Nat → Int) (hf : textsB n l p u r = true) : fld (sealL (encL n l p u r ty ns)) 257 265 = ustarL := by
  have hl := encL_length n l p u r ty ns hf
  have s := texts_sizes hf
  have hz := sealL_length _ hl
  have := fld_gD (sealL (encL n l p u r ty ns)) 257 265 (by rw [hz]; omega) (by omega) ustarL 0 rfl (fun i hi => ?_) (fun i hi => by omega)
  · rw [this]; simp
  · have hi' : i < 8 := hi
    rw [gD_seal _ hl _ (by omega), gD_encL n l p u r ty ns hf, if_neg (by omega), if_neg (by omega), if_neg (by omega), if_neg (by omega), if_pos (by omega), show 257 + i - 257 = i by omega]
    rfl

/-- the block with another magic, sealed anew -/
theorem hdOf_magic (n l p u r : ByteArray) (ty : Int) (ns : Nat → Int) (hf : textsB n l p u r = true) (hn : ∀ k, k < 5 → numFit ns k = true) (M : List Int) (hM : M.length = 8) :
    HdOf (sealL (splice (sealL (encL n l p u r ty ns)) 257 M)) n l p u r ty ns ∧ fld (sealL (splice (sealL (encL n l p u r ty ns)) 257 M)) 257 265 = M := by
  have hl := encL_length n l p u r ty ns hf
  have h1 := sealL_length _ hl
  have hk : 257 + M.length ≤ (sealL (encL n l p u r ty ns)).length := by rw [h1]; omega
  have h2 : (splice (sealL (encL n l p u r ty ns)) 257 M).length = 512 := by rw [length_splice _ _ _ hk, h1]
  refine ⟨⟨sealL_length _ h2, fun i a b => ?_, hf, hn⟩, ?_⟩
  · rw [gD_seal _ h2 i a, gD_splice _ _ _ _ hk, if_neg (by omega), gD_seal _ hl i a]
  · have := fld_gD (sealL (splice (sealL (encL n l p u r ty ns)) 257 M)) 257 265 (by rw [sealL_length _ h2]; omega) (by omega) M 0 (by omega) (fun i hi => ?_) (fun i hi => by omega)
    · rw [this]; simp
    · rw [gD_seal _ h2 _ (by omega), gD_splice _ _ _ _ hk, if_pos (by omega)]
      rw [show 257 + i - 257 = i by omega]

end Go.Proofs.YtnmmaedngdibeaaGreatDoor.H

namespace Go.Proofs.YtnmmaedngdibeaaGreatDoor
open Go.RowKit
set_option linter.unusedVariables false
set_option linter.unusedSimpArgs false

section
variable {w : World} {g : Nat} {s : PsR} {kv gv lv : Value} {F0 : Pu.Fns E.Hd E.En Rec ByteArray}

def clS (s : PsR) (c : Int) : PsR := { begS s with cl := c }

theorem head_tail {W1 : World} (h1 : Pm W1 g (begS s) kv gv lv) (y : E.Hd) (c : Int) {W : World} (b : Below W1.heap.size W1 W) {hb : Nat} (hh : W.heap[hb]? = some (.cells y.cells 55 (0, 0))) :
    (∀ i, W.cell? ⟨g, i, none⟩ = (pCells (begS s) kv gv lv)[i]?) ∧ (∀ i, W.frozen? ⟨g, i, none⟩ = false) ∧ (∀ i, W.cell? ⟨hb, i, none⟩ = y.cells[i]?) ∧
    Pm (W.setCell ⟨g, 5, none⟩ (.int .i64 c)) g (clS s c) kv gv lv ∧ Bx g W (W.setCell ⟨g, 5, none⟩ (.int .i64 c)) (pCells (clS s c) kv gv lv) ∧ (∀ i, (W.setCell ⟨g, 5, none⟩ (.int .i64 c)).cell? ⟨hb, i, none⟩ = y.cells[i]?) := by
  have h2 := h1.grow b
  have B5 : Bx g W (W.setCell ⟨g, 5, none⟩ (.int .i64 c)) (pCells (clS s c) kv gv lv) := (Bx.mk0 h2.box).set 5 _
  have hne : hb ≠ g := by
    rintro rfl
    rw [h2.box] at hh
    injection hh with hh
    injection hh with _ hh
    cases hh
  exact ⟨h2.cell, h2.froz, fun i => by simp [World.cell?, hh], h2.boxed rfl rfl rfl B5, B5, fun i => by simp [World.cell?, (B5.block hb hne).trans hh]⟩

set_option maxRecDepth 20000 in
set_option maxHeartbeats 4000000 in
theorem head_yes (hF : Fall F0) (h : Pm w g s kv gv lv) (hS : Small s) (hl : s.kp.length = 512) (hr : s.rd ≤ 4611686018427387904) (hb : H.blankB s.kp = false) (hbl : s.bl = false) (hL : H.Laid w) (hG : 14 ≤ g) (y : E.Hd) (hx : decH s.kp = .inr y)
    (KB : Hid (∀ W, Pm W g (clS s (clsP y.typ)) kv gv lv → (∀ k, k < 14 → W.heap[k]? = w.heap[k]?) → w.heap.size ≤ W.heap.size → clsP y.typ = 1 → Calls Tryz.prog 60 #[.pointer (some ⟨g, 0, none⟩), .agg y.cells] W fun ev w' => ∃ v L, ev = .returned v ∧ Out W w' g kv gv lv (Pu.beginThing F0 (clS s (clsP y.typ)) y).1 v L ∧ L.map (·.1) = (Pu.beginThing F0 (clS s (clsP y.typ)) y).2)) :
    Calls Tryz.prog 39 #[.pointer (some ⟨g, 0, none⟩)] w fun ev w' => ∃ v L, ev = .returned v ∧ Out w w' g kv gv lv (Pu.endHeader F0 s).1 v L ∧ L.map (·.1) = (Pu.endHeader F0 s).2 := by
  have B1 : Bx g w (w.setCell ⟨g, 4, none⟩ (.int .i64 ((s.rd : Int) - 512))) (pCells (begS s) kv gv lv) := (Bx.mk0 h.box).set 4 _
  have h1 : Pm (w.setCell ⟨g, 4, none⟩ (.int .i64 ((s.rd : Int) - 512))) g (begS s) kv gv lv := h.boxed (s2 := begS s) rfl rfl rfl B1
  have qb := blank_kept h1.kept hl
  have hkp : (begS s).kp = s.kp := rfl
  rw [hkp, hb] at qb
  have c0 := h.cells
  have f0 := h.froz
  have c1 := h1.cells
  have HA : Hid (∀ W' s' v L, Out (w.setCell ⟨g, 4, none⟩ (.int .i64 ((s.rd : Int) - 512))) W' g kv gv lv s' v L → Out w W' g kv gv lv s' v L) := fun W' s' v L o => Out.after (B1.mv kv gv lv) (fun k hk => .inl hk) o
  have hw : IntKind.i64.wrap ((s.rd : Int) - 512) = (s.rd : Int) - 512 := by rw [IntKind.wrap_i64]; omega
  obtain ⟨ka, kc, hkv, _, _, _⟩ := own_sl h.kept
  have he : Pu.endHeader F0 s = if clsP y.typ = 0 then Pu.fail F0 (clS s (clsP y.typ)) 80 else if clsP y.typ = 1 then Pu.beginThing F0 (clS s (clsP y.typ)) y else Pu.beginMeta F0 (clS s (clsP y.typ)) y.size := by
    unfold Pu.endHeader
    rw [hF.blank, hF.dec, hF.typ, hF.cls, hF.size]
    simp only [hb, hbl, hx, Bool.false_eq_true, if_false, clS, begS]
  rw [he]
  suffices HH : ∀ (R : PsR × List EvE) (PP : Ending → World → Prop), Hid (clsP y.typ = 0 → R = Pu.fail F0 (clS s (clsP y.typ)) 80) → Hid (clsP y.typ = 1 → R = Pu.beginThing F0 (clS s (clsP y.typ)) y) → Hid (clsP y.typ ≠ 0 → clsP y.typ ≠ 1 → R = Pu.beginMeta F0 (clS s (clsP y.typ)) y.size) → Hid (∀ v L W', Out w W' g kv gv lv R.1 v L → L.map (·.1) = R.2 → PP (.returned v) W') → Calls Tryz.prog 39 #[.pointer (some ⟨g, 0, none⟩)] w PP from
    HH _ _ (fun c => by rw [if_pos c]) (fun c => by rw [if_neg (by omega), if_pos c]) (fun c d => by rw [if_neg c, if_neg d]) (fun v L W' o m => ⟨v, L, rfl, o, m⟩)
  intro R PP HR0 HR1 HR2 HPP
  have hL1 : H.Laid (w.setCell ⟨g, 4, none⟩ (.int .i64 ((s.rd : Int) - 512))) := laid_moved hL fun k hk => B1.block k (by omega)
  have qd := decH_w h1.kept hS.kp hl hL1
  rw [hkp, hx] at qd
  simp only at qd
  have hglt := h.lt
  have hG2 : Hid (14 ≤ w.heap.size) := by show _ ≤ _; omega
  have HT : Hid (∀ W hb, Below (w.setCell ⟨g, 4, none⟩ (.int .i64 ((s.rd : Int) - 512))).heap.size (w.setCell ⟨g, 4, none⟩ (.int .i64 ((s.rd : Int) - 512))) W → W.heap[hb]? = some (.cells y.cells 55 (0, 0)) →
      (∀ i, W.cell? ⟨g, i, none⟩ = (pCells (begS s) kv gv lv)[i]?) ∧ (∀ i, W.frozen? ⟨g, i, none⟩ = false) ∧ (∀ i, W.cell? ⟨hb, i, none⟩ = y.cells[i]?) ∧ (∀ i, (W.setCell ⟨g, 5, none⟩ (.int .i64 (clsP y.typ))).cell? ⟨hb, i, none⟩ = y.cells[i]?) ∧ (∀ i, (W.setCell ⟨g, 5, none⟩ (.int .i64 (clsP y.typ))).cell? ⟨g, i, none⟩ = (pCells (clS s (clsP y.typ)) kv gv lv)[i]?) ∧
      Pm (W.setCell ⟨g, 5, none⟩ (.int .i64 (clsP y.typ))) g (clS s (clsP y.typ)) kv gv lv ∧ (∀ k, k < 14 → (W.setCell ⟨g, 5, none⟩ (.int .i64 (clsP y.typ))).heap[k]? = w.heap[k]?) ∧ w.heap.size ≤ (W.setCell ⟨g, 5, none⟩ (.int .i64 (clsP y.typ))).heap.size ∧
      ∀ W' s' v L, Out (W.setCell ⟨g, 5, none⟩ (.int .i64 (clsP y.typ))) W' g kv gv lv s' v L → Out w W' g kv gv lv s' v L) := fun W hb b hh => by
    obtain ⟨a1, a2, a3, a4, a5, a6⟩ := head_tail h1 y (clsP y.typ) b hh
    have hsz1 : w.heap.size ≤ W.heap.size := by have := b.size; rw [B1.size] at this; exact this
    refine ⟨a1, a2, a3, a6, a4.cell, a4, fun k hk => ?_, by rw [a5.size]; exact hsz1, fun W' s' v L o => ?_⟩
    · exact ((a5.block k (by omega)).trans (b.block k (by rw [B1.size]; omega))).trans (B1.block k (by omega))
    · exact HA.out _ _ _ _ (Out.after (Mv.of_below b) (fun k hk => .inl hk) (Out.after (a5.mv kv gv lv) (fun k hk => .inl hk) o))
  have hz := zeroH
  have qc := fun W => class_w y.typ W
  clear h h1 B1 hb hl he hL hL1 hS HA
  simp only [begS] at c1 qb
  rw [hbl] at c1
  subst hkv
  have HF : Hid (Fall F0) := hF
  clear hF
  generalize s.kp.length = kn at *
  go_enter Tryz.func39, Tryz.ntmps39
  go_upto_region 6 with (go_at_call 55; refine qb.mono ?_; rintro ev w2 ⟨rfl, rfl⟩)
  go_upto_region 7 with (first
    | (go_at_call 58; refine qd.mono ?_; rintro ev w2 ⟨hd, e9, rfl, ⟨he9, hdy⟩, b2⟩; subst he9 hdy)
    | (refine wpList_store_row rfl 55 _ _ rfl _ _ rfl rfl 55 _ (heap_alloc_new w2 _) (hd_size hd) (by simp [E.Hd.cells, zeroHd]) (hd_one hd) ?_))
  have b3 := bel_row (b2.alloc b2.size (.cells zeroHd.cells 55)) b2.size hd.cells
  obtain ⟨a1, a2, a3, a4, a5, a6, a7, a8, a9⟩ := HT.out _ w2.heap.size b3 (setRow_heap _ _ _ hd.cells _ _ (heap_alloc_new w2 _))
  clear HT qd b2 b3
  generalize ((w2.alloc (.cells zeroHd.cells 55)).setRow w2.heap.size hd.cells) = W3 at *
  generalize w2.heap.size = hbk at *
  have A6 : Hid _ := a6
  have A7 : Hid _ := a7
  have A8 : Hid _ := a8
  have A9 : Hid _ := a9
  clear a6 a7 a8 a9
  have Q0 : Hid (clsP hd.typ = 0 → Calls Tryz.prog 57 #[.pointer (some ⟨g, 0, none⟩), .int .i64 80] (W3.setCell ⟨g, 5, none⟩ (.int .i64 (clsP hd.typ))) fun ev w' => ∃ v, ev = .returned v ∧ PP (.returned v) w') := fun c => (fail_w A6.out 80 rfl).mono fun ev w' ⟨v, e, o⟩ => ⟨v, e, HPP.out v _ w' (by have o2 := A9.out _ _ _ _ o; rw [HR0.out c]; simpa [Pu.fail, Pu.stop, stopS, HF.out.none] using o2) (by rw [HR0.out c]; rfl)⟩
  have Q1 : Hid (clsP hd.typ = 1 → Calls Tryz.prog 60 #[.pointer (some ⟨g, 0, none⟩), .agg hd.cells] (W3.setCell ⟨g, 5, none⟩ (.int .i64 (clsP hd.typ))) fun ev w' => ∃ v, ev = .returned v ∧ PP (.returned v) w') := fun c => (KB.out _ A6.out A7.out A8.out c).mono fun ev w' ⟨v, L, e, o, m⟩ => ⟨v, e, HPP.out v L w' (by rw [HR1.out c]; exact A9.out _ _ _ _ o) (by rw [HR1.out c]; exact m)⟩
  have Q2 : Hid (clsP hd.typ ≠ 0 → clsP hd.typ ≠ 1 → Calls Tryz.prog 61 #[.pointer (some ⟨g, 0, none⟩), .int .i64 hd.size] (W3.setCell ⟨g, 5, none⟩ (.int .i64 (clsP hd.typ))) fun ev w' => ∃ v, ev = .returned v ∧ PP (.returned v) w') := fun c d => (beginMeta_w F0 HF.out.none A6.out hd.size).mono fun ev w' ⟨v, L, e, o, m⟩ => ⟨v, e, HPP.out v L w' (by rw [HR2.out c d]; exact A9.out _ _ _ _ o) (by rw [HR2.out c d]; exact m)⟩
  simp only [pCells, clS, begS] at a1 a5
  clear KB A6 A7 A8 A9 hx HR0 HR1 HR2 HPP HF
  generalize clsP hd.typ = cc at *
  obtain ⟨form, name, link, prefx, user, group, typ, mode, uid, gid, size, mtime⟩ := hd
  simp only [E.Hd.cells] at *
  by_cases k0 : cc = 0
  · subst k0
    have q := Q0.out rfl
    clear Q0 Q1 Q2
    go_wp2_with (first
      | (go_at_call 59; refine (qc _).mono ?_; rintro ev w5 ⟨rfl, rfl⟩)
      | (go_at_call 57; refine q.mono ?_; rintro ev w6 ⟨v6, rfl, o6⟩))
    exact o6
  · have k0b : (cc == 0) = false := by simpa using k0
    by_cases k1 : cc = 1
    · subst k1
      have q := Q1.out rfl
      clear Q0 Q1 Q2
      go_wp2_with (first
        | (go_at_call 59; refine (qc _).mono ?_; rintro ev w5 ⟨rfl, rfl⟩)
        | (go_at_call 60; refine q.mono ?_; rintro ev w6 ⟨v6, rfl, o6⟩))
      exact o6
    · have k1b : (cc == 1) = false := by simpa using k1
      have q := Q2.out k0 k1
      clear Q0 Q1 Q2
      go_wp2_with (first
        | (go_at_call 59; refine (qc _).mono ?_; rintro ev w5 ⟨rfl, rfl⟩)
        | (go_at_call 61; refine q.mono ?_; rintro ev w6 ⟨v6, rfl, o6⟩))
      exact o6
end
end Go.Proofs.YtnmmaedngdibeaaGreatDoor

namespace Go.Proofs.YtnmmaedngdibeaaGreatDoor
open Go.RowKit
set_option linter.unusedVariables false
set_option linter.unusedSimpArgs false

theorem dgo_le : ∀ (r : List Int) (n p m : Int), n ≤ 9223372036854775807 → H.dgo r n p = some m → m ≤ 9223372036854775807
  | [], n, p, m, hn, h => by simp only [H.dgo] at h; cases h; exact hn
  | b :: r, n, p, m, hn, h => by
    unfold H.dgo at h
    cases hx : H.dstep n p b with
    | none => rw [hx] at h; cases h
    | some q =>
      obtain ⟨q1, q2⟩ := q
      rw [hx] at h
      refine dgo_le r q1 q2 m ?_ h
      unfold H.dstep at hx
      split at hx
      · cases hx; exact hn
      · split at hx
        · split at hx
          · cases hx
          · cases hx; omega
        · split at hx
          · cases hx; exact hn
          · cases hx
theorem bgo_le : ∀ (r : List Int) (n m : Int), H.AllB r → n ≤ 9223372036854775807 → H.bgo r n = some m → m ≤ 9223372036854775807
  | [], n, m, _, hn, h => by simp only [H.bgo] at h; cases h; exact hn
  | b :: r, n, m, hb, hn, h => by
    unfold H.bgo at h
    have := hb b (by simp)
    split at h
    · cases h
    · exact bgo_le r _ m (fun z hz => hb z (by simp [hz])) (by omega) h
theorem parseO_le {zs : List Int} {m : Int} (hb : H.AllB zs) (h : H.parseO zs = some m) : m ≤ 9223372036854775807 := by
  cases zs with
  | nil => simp only [H.parseO] at h; cases h; omega
  | cons b r =>
    have hr : H.AllB r := fun z hz => hb z (by simp [hz])
    simp only [H.parseO] at h
    split at h
    · exact dgo_le _ _ _ _ (by omega) h
    · split at h
      · exact bgo_le _ _ _ hr (by omega) h
      · split at h
        · exact bgo_le _ _ _ hr (by omega) h
        · cases h
theorem vN_le {zs : List Int} (hb : H.AllB zs) (k : Nat) : H.vN zs k ≤ 9223372036854775807 := by
  unfold H.vN H.resN
  cases hx : H.parseO (H.fld zs (H.numB k) (H.numE k)) with
  | none => show (0 : Int) ≤ _; omega
  | some m => exact parseO_le (H.fld_allB zs _ _ hb) hx
theorem nval_le {s : ByteArray} {v : Int} (h : E.nval s = some v) : v ≤ 9223372036854775807 := by
  unfold E.nval at h
  split at h
  · rename_i v' hv
    split at h
    · cases h; exact (E.parseIntB_range _ _ hv).2
    · cases h
  · cases h
theorem numV_le (h : E.Hd) (a : E.Ah) (hs : h.size ≤ 9223372036854775807) : (E.numV h a 0).getD 0 ≤ 9223372036854775807 := by
  unfold E.numV
  split
  · exact hs
  · cases hx : E.nval (a.val (E.kyN 0)) with
    | none => show (0 : Int) ≤ _; omega
    | some v => exact nval_le hx
theorem full_size (h : E.Hd) (a : E.Ah) (hs : h.size ≤ 9223372036854775807) : (E.fullE h a).size ≤ 9223372036854775807 := by
  have := numV_le h a hs
  unfold E.fullE E.settleF
  simp only
  split
  · exact this
  · omega
theorem make_size {h : E.Hd} {gl lo : List Rec} {nm lk : ByteArray} {y : E.En} (hs : h.size ≤ 9223372036854775807) (hy : makeP h gl lo nm lk = .inr y) : y.size ≤ 9223372036854775807 := by
  unfold makeP at hy
  simp only at hy
  split at hy
  · cases hy
  · split at hy
    · cases hy
    · split at hy
      · cases hy
      · injection hy with hy
        subst hy
        exact full_size h _ hs
theorem dec_size {zs : List Int} {y : E.Hd} (hb : H.AllB zs) (h : decH zs = .inr y) : y = hdOf zs ∧ y.size ≤ 9223372036854775807 := by
  have : y = hdOf zs := by
    unfold decH at h
    (repeat' split at h) <;> first | (injection h with h; exact h.symm) | cases h
  exact ⟨this, by rw [this]; exact vN_le hb _⟩

theorem takeWhile_le (p : Int → Bool) : ∀ l : List Int, (l.takeWhile p).length ≤ l.length
  | [] => by simp
  | a :: l => by
    rw [List.takeWhile_cons]
    split
    · have := takeWhile_le p l; simp; omega
    · simp
theorem tx_size (zs : List Int) (c d : Int) : (H.tx zs c d).size ≤ zs.length := by
  have h1 : (H.tx zs c d).size = (H.textL zs c.toNat d.toNat).length := H.strOf_size _
  rw [h1]
  unfold H.textL H.txt H.fld
  refine Nat.le_trans (takeWhile_le _ _) ?_
  simp only [List.length_take, List.length_drop]
  omega
theorem textP_size (zs : List Int) : (textP zs).size ≤ zs.length := by
  have hl := U8_length zs
  unfold textP
  split
  · show (U8 zs).toArray.size ≤ _; simp; omega
  · show ((U8 zs).take _).toArray.size ≤ _; simp; omega
theorem dec_vals (M : Nat) : ∀ (f : Nat) (acc : List Rec) (bs : List UInt8), (∀ r ∈ acc, r.2.size ≤ M) → bs.length ≤ M → ∀ r ∈ (X.dec f acc bs).1, r.2.size ≤ M
  | 0, acc, bs, h, hb => h
  | f + 1, acc, bs, h, hb => by
    unfold X.dec
    split
    · exact h
    · split
      · intro r hr; cases hr
      · split
        · intro r hr; cases hr
        · split
          · intro r hr; cases hr
          · refine dec_vals M f _ _ ?_ (by rw [List.length_drop]; omega)
            intro r hr
            rcases List.mem_append.1 hr with h1 | h1
            · exact h r h1
            · simp at h1
              subst h1
              have := (X.firstP_sizes bs).2
              show (X.fv bs).size ≤ M
              unfold X.fv
              show (X.firstP bs).2.1.toArray.size ≤ M
              simp; omega
theorem decP_vals {zs : List Int} {M : Nat} (h : zs.length ≤ M) : ∀ r ∈ (decP zs).1, r.2.size ≤ M := dec_vals M _ _ _ (fun r hr => by cases hr) (by rw [U8_length]; exact h)

theorem lastOf_le (K V : Nat → ByteArray) (key : ByteArray) (M : Nat) : ∀ n, (∀ i, i < n → (V i).size ≤ M) → (E.lastOf K V key n).1.size ≤ M
  | 0, _ => by show (⟨#[]⟩ : ByteArray).size ≤ M; exact Nat.zero_le _
  | n + 1, h => by
    unfold E.lastOf
    split
    · exact h n (by omega)
    · exact lastOf_le K V key M n (fun i hi => h i (by omega))
theorem valAt_le {l : List Rec} {M : Nat} (h : ∀ r ∈ l, r.2.size ≤ M) (i : Nat) (hi : i < l.length) : (valAt l i).size ≤ M := by
  unfold valAt
  rw [List.getD_eq_getElem?_getD, List.getElem?_eq_getElem hi]
  exact h _ (List.getElem_mem hi)
theorem ah_val {gv lv : Value} {gl lo : List Rec} {nm lk : ByteArray} {M : Nat} (hg : ∀ r ∈ gl, r.2.size ≤ M) (hl : ∀ r ∈ lo, r.2.size ≤ M) (k : ByteArray) : ((aOf gv lv gl lo nm lk).val k).size ≤ M := by
  unfold E.Ah.val aOf
  simp only
  split
  · exact lastOf_le _ _ _ _ _ fun i hi => valAt_le hl i hi
  · exact lastOf_le _ _ _ _ _ fun i hi => valAt_le hg i hi

/-- a parser's bounds -/
structure Rok (s : PsR) : Prop where
  sm : Small s
  nm : s.nm.size ≤ 8192
  lk : s.lk.size ≤ 8192
  gv : ∀ r ∈ s.gl, r.2.size ≤ 8192
  lv : ∀ r ∈ s.lo, r.2.size ≤ 8192
  lf : s.lf ≤ 9223372036854775807
  p0 : s.pt = 0 → s.kp.length + s.lf = 512
  p1 : s.pt = 1 → s.kp.length + s.lf ≤ 8192 ∧ (s.cl = 2 ∨ s.cl = 3 ∨ s.cl = 4 ∨ s.cl = 5)
  p4 : s.pt ≤ 4

theorem nilB : H.AllB [] := fun z hz => by cases hz

section
variable {s : PsR} {F0 : Pu.Fns E.Hd E.En Rec ByteArray}

theorem rok_new (hF : Fall F0) : Rok (Pu.new F0) := by
  have h0 := hF.none
  unfold Pu.new
  rw [h0]
  exact ⟨⟨nilB, by simp, by simp, by simp⟩, Nat.zero_le _, Nat.zero_le _, by simp, by simp, by simp, by simp, by simp, by simp⟩
theorem rok_stop (hF : Fall F0) (er) : Rok (Pu.stop F0 s er) := by
  have h0 := hF.none
  unfold Pu.stop
  rw [h0]
  exact ⟨⟨nilB, by simp, by simp, by simp⟩, Nat.zero_le _, Nat.zero_le _, by simp, by simp, by simp, by simp, by simp, by simp⟩
theorem Rok.expect (h : Rok s) (pt lf : Nat) (hp : pt ≤ 4) (hl : lf ≤ 9223372036854775807) (h0 : pt = 0 → lf = 512) (h1 : pt = 1 → lf ≤ 8192 ∧ (s.cl = 2 ∨ s.cl = 3 ∨ s.cl = 4 ∨ s.cl = 5)) : Rok (Pu.expect s pt lf) :=
  ⟨⟨nilB, by simp [Pu.expect], h.sm.gl, h.sm.lo⟩, h.nm, h.lk, h.gv, h.lv, hl, fun h2 => by have := h0 h2; simp [Pu.expect, this], fun h2 => by have := h1 h2; simpa [Pu.expect] using this, hp⟩
theorem pad_lt (n : Nat) : Pu.pad n < 512 := by unfold Pu.pad; omega
theorem Rok.fill (h : Rok s) : Rok (Pu.fill s) := h.expect 3 _ (by omega) (by have := pad_lt s.rd; omega) (by omega) (by omega)
theorem Rok.with (h : Rok s) (bg cl : Int) (bl : Bool) (hp : s.pt ≠ 1) : Rok { s with bg := bg, cl := cl, bl := bl } :=
  ⟨⟨h.sm.kp, h.sm.kl, h.sm.gl, h.sm.lo⟩, h.nm, h.lk, h.gv, h.lv, h.lf, h.p0, fun h1 => absurd h1 hp, h.p4⟩

theorem cls_cases (a : Int) : clsP a = 0 ∨ clsP a = 1 ∨ clsP a = 2 ∨ clsP a = 3 ∨ clsP a = 4 ∨ clsP a = 5 := by
  unfold clsP
  (repeat' split) <;> simp

theorem Rok.turn (hF : Fall F0) (h : Rok s) (hl : s.lf = 0) : Rok (Pu.turn F0 s).1 := by
  unfold Pu.turn
  by_cases c0 : s.pt = 0
  · rw [if_pos c0]
    unfold Pu.endHeader
    simp only
    split
    · unfold Pu.endBlank
      split
      · exact rok_stop hF _
      · have := (h.with ((s.rd : Int) - 512) s.cl s.bl (by omega)).expect 0 512 (by omega) (by omega) (by simp) (by simp)
        exact ⟨⟨this.sm.kp, this.sm.kl, this.sm.gl, this.sm.lo⟩, this.nm, this.lk, this.gv, this.lv, this.lf, this.p0, this.p1, this.p4⟩
    · split
      · exact rok_stop hF _
      · split
        · exact rok_stop hF _
        · rename_i y hy
          rw [hF.dec] at hy
          obtain ⟨hy1, hy2⟩ := dec_size h.sm.kp hy
          rw [hF.cls]
          split
          · exact rok_stop hF _
          · split
            · unfold Pu.beginThing
              split
              · exact rok_stop hF _
              · rename_i x hx
                rw [hF.make] at hx
                have hx2 := make_size hy2 hx
                rw [hF.esize, hF.none]
                have hw := h.with ((s.rd : Int) - 512) (clsP (F0.typ y)) s.bl (by omega)
                have : Rok { s with bg := (s.rd : Int) - 512, cl := clsP (F0.typ y), lo := [], nm := ⟨#[]⟩, lk := ⟨#[]⟩ } := ⟨⟨hw.sm.kp, hw.sm.kl, hw.sm.gl, by simp⟩, Nat.zero_le _, Nat.zero_le _, hw.gv, by simp, hw.lf, hw.p0, hw.p1, hw.p4⟩
                exact this.expect 2 _ (by omega) (by show x.size.toNat ≤ _; omega) (by omega) (by omega)
            · rename_i n0 n1
              unfold Pu.beginMeta
              split
              · exact rok_stop hF _
              · split
                · exact rok_stop hF _
                · rename_i k0 k1
                  refine (h.with ((s.rd : Int) - 512) (clsP (F0.typ y)) s.bl (by omega)).expect 1 _ (by omega) (by omega) (by omega) (fun _ => ⟨by omega, ?_⟩)
                  show clsP (F0.typ y) = 2 ∨ clsP (F0.typ y) = 3 ∨ clsP (F0.typ y) = 4 ∨ clsP (F0.typ y) = 5
                  have := cls_cases (F0.typ y)
                  try simp only at n0 n1
                  omega
  · rw [if_neg c0]
    by_cases c1 : s.pt = 1
    · rw [if_pos c1]
      have hk : s.kp.length ≤ 8192 := h.sm.kl
      unfold Pu.endMeta
      split
      · refine Rok.fill ?_
        have hcl := (h.p1 c1).2
        have hp1 := h.p1 c1
        have hadd : ∀ l : List Rec, (∀ r ∈ l, r.2.size ≤ 8192) → ∀ m, Pu.add F0 l s.kp = .inr m → m.length ≤ 64 ∧ ∀ r ∈ m, r.2.size ≤ 8192 := fun l hv m hm => by
          unfold Pu.add at hm
          rw [hF.recs] at hm
          unfold recsP at hm
          split at hm
          · cases hm
          · rename_i q hq
            split at hq
            · injection hq with hq
              subst hq
              split at hm
              · cases hm
              · injection hm with hm
                subst hm
                refine ⟨by rw [List.length_append]; omega, fun r hr => ?_⟩
                rcases List.mem_append.1 hr with h1 | h1
                · exact hv r h1
                · exact decP_vals hk r h1
            · cases hq
        unfold Pu.layAhead
        rw [hF.text]
        rcases hcl with c | c | c | c
        · rw [if_neg (by omega), if_neg (by omega), if_pos c]
          cases hx : Pu.add F0 s.lo s.kp with
          | inl e => exact ⟨⟨h.sm.kp, h.sm.kl, h.sm.gl, by simp⟩, h.nm, h.lk, h.gv, by simp, h.lf, h.p0, h.p1, h.p4⟩
          | inr m =>
            obtain ⟨m1, m2⟩ := hadd _ h.lv _ hx
            exact ⟨⟨h.sm.kp, h.sm.kl, h.sm.gl, m1⟩, h.nm, h.lk, h.gv, m2, h.lf, h.p0, h.p1, h.p4⟩
        · rw [if_neg (by omega), if_neg (by omega), if_neg (by omega), if_pos c]
          cases hx : Pu.add F0 s.gl s.kp with
          | inl e => exact ⟨⟨h.sm.kp, h.sm.kl, by simp, h.sm.lo⟩, h.nm, h.lk, by simp, h.lv, h.lf, h.p0, h.p1, h.p4⟩
          | inr m =>
            obtain ⟨m1, m2⟩ := hadd _ h.gv _ hx
            exact ⟨⟨h.sm.kp, h.sm.kl, m1, h.sm.lo⟩, h.nm, h.lk, m2, h.lv, h.lf, h.p0, h.p1, h.p4⟩
        · rw [if_pos c]
          exact ⟨⟨h.sm.kp, h.sm.kl, h.sm.gl, h.sm.lo⟩, Nat.le_trans (textP_size _) hk, h.lk, h.gv, h.lv, h.lf, h.p0, h.p1, h.p4⟩
        · rw [if_neg (by omega), if_pos c]
          exact ⟨⟨h.sm.kp, h.sm.kl, h.sm.gl, h.sm.lo⟩, h.nm, Nat.le_trans (textP_size _) hk, h.gv, h.lv, h.lf, h.p0, h.p1, h.p4⟩
      · exact rok_stop hF _
    · rw [if_neg c1]
      by_cases c2 : s.pt = 2
      · rw [if_pos c2]; exact h.fill
      · rw [if_neg c2]; exact h.expect 0 512 (by omega) (by omega) (by simp) (by simp)

theorem Rok.take (h : Rok s) (b : List Int) (hb : H.AllB b) (hl : b.length ≤ s.lf) : Rok (Pu.take (E := E.En) s b).1 := by
  have hlf := h.lf
  unfold Pu.take
  by_cases c0 : s.pt = 0 ∨ s.pt = 1
  · simp only [if_pos c0]
    have hlen : s.kp.length + b.length ≤ 8192 := by
      rcases c0 with c | c
      · have := h.p0 c; omega
      · have := (h.p1 c).1; omega
    refine ⟨⟨?_, by simpa using hlen, h.sm.gl, h.sm.lo⟩, h.nm, h.lk, h.gv, h.lv, by show s.lf - b.length ≤ _; omega, fun h1 => ?_, fun h1 => ?_, h.p4⟩
    · intro z hz
      rcases List.mem_append.1 hz with h1 | h1
      · exact h.sm.kp z h1
      · exact hb z h1
    · have := h.p0 h1
      show (s.kp ++ b).length + (s.lf - b.length) = 512
      rw [List.length_append]; omega
    · have := h.p1 h1
      refine ⟨?_, this.2⟩
      show (s.kp ++ b).length + (s.lf - b.length) ≤ 8192
      rw [List.length_append]; omega
  · simp only [if_neg c0]
    have : Rok { s with rd := s.rd + b.length, lf := s.lf - b.length } := ⟨⟨h.sm.kp, h.sm.kl, h.sm.gl, h.sm.lo⟩, h.nm, h.lk, h.gv, h.lv, by show s.lf - b.length ≤ _; omega, fun h1 => absurd (.inl h1) c0, fun h1 => absurd (.inr h1) c0, h.p4⟩
    split <;> exact this

theorem turn_rd (hF : Fall F0) (s : PsR) : (Pu.turn F0 s).1.rd = s.rd := by
  unfold Pu.turn Pu.endHeader Pu.endBlank Pu.beginThing Pu.beginMeta Pu.endMeta Pu.fill Pu.expect Pu.fail Pu.stop
  simp only
  (repeat' split) <;> first | rfl | exact lay_rd F0 s
theorem take_rd (s : PsR) (b : List Int) : (Pu.take (E := E.En) s b).1.rd = s.rd + b.length := by
  unfold Pu.take
  (repeat' split) <;> rfl
end

/-- what other layers' variables ask of memory -/
structure Lb (w : World) : Prop where
  laid : H.Laid w
  ev : E.Vs w
  xv : X.Vs w
  sz : 14 ≤ w.heap.size

theorem tab_moved {w w' : World} (h : Lib.TabIs Tryz.prog w "internal/strconv.uint64pow10" .u64 Lib.pow10Tab) (hb : ∀ k, k < 14 → w'.heap[k]? = w.heap[k]?) : Lib.TabIs Tryz.prog w' "internal/strconv.uint64pow10" .u64 Lib.pow10Tab := by
  have hk : (Tryz.prog.globalNamed "internal/strconv.uint64pow10").map (fun g => decide (g < 14)) = some true := by kernel_rfl
  unfold Lib.TabIs World.var? at *
  cases hg : Tryz.prog.globalNamed "internal/strconv.uint64pow10" with
  | none => simp [hg] at h
  | some g =>
    rw [hg] at hk
    simp at hk
    simp only [hg, Option.bind_some] at h ⊢
    rw [hb g hk]
    exact h
theorem Lb.moved {w w' : World} (h : Lb w) (hb : ∀ k, k < 14 → w'.heap[k]? = w.heap[k]?) (hs : w.heap.size ≤ w'.heap.size) : Lb w' := by
  have hc : ∀ k i, k < 14 → w'.cell? ⟨k, i, none⟩ = w.cell? ⟨k, i, none⟩ := fun k i hk => by simp only [World.cell?, hb k hk]
  obtain ⟨a1, a2, a3, a4⟩ := h
  refine ⟨laid_moved a1 hb, ?_, ?_, by omega⟩
  · obtain ⟨t, ⟨te, pe, h1⟩, ⟨tr, pr, h2⟩⟩ := a2
    exact ⟨tab_moved t hb, ⟨te, pe, (hc _ _ (by decide)).trans h1⟩, ⟨tr, pr, (hc _ _ (by decide)).trans h2⟩⟩
  · obtain ⟨t, ⟨te, pe, h1⟩, ⟨tr, pr, h2⟩⟩ := a3
    exact ⟨tab_moved t hb, ⟨te, pe, (hc _ _ (by decide)).trans h1⟩, ⟨tr, pr, (hc _ _ (by decide)).trans h2⟩⟩
theorem Lb.below {w w' : World} (h : Lb w) (b : Below w.heap.size w w') : Lb w' := h.moved (fun k hk => b.block k (by have := h.sz; omega)) b.size
theorem Lb.mv {w w' : World} {O : Nat → Prop} (h : Lb w) (m : Mv O w w') (hO : ∀ k, O k → 14 ≤ k) : Lb w' := h.moved (fun k hk => m.block k (by have := h.sz; omega) (fun ho => by have := hO k ho; omega)) m.size

end Go.Proofs.YtnmmaedngdibeaaGreatDoor

namespace Go.Proofs.YtnmmaedngdibeaaGreatDoor
open Go.RowKit
set_option linter.unusedVariables false
set_option linter.unusedSimpArgs false

section
variable {w : World} {g : Nat} {s : PsR} {kv gv lv : Value} {F0 : Pu.Fns E.Hd E.En Rec ByteArray}

theorem endHeader_w (hF : Fall F0) (h : Pm w g s kv gv lv) (hR : Rok s) (hp : s.pt = 0) (hlf : s.lf = 0) (hr : s.rd ≤ 4611686018427387904) (hL : Lb w) (hG : 14 ≤ g) :
    Calls Tryz.prog 39 #[.pointer (some ⟨g, 0, none⟩)] w fun ev w' => ∃ v L, ev = .returned v ∧ Out w w' g kv gv lv (Pu.endHeader F0 s).1 v L ∧ L.map (·.1) = (Pu.endHeader F0 s).2 := by
  have hl : s.kp.length = 512 := by have := hR.p0 hp; omega
  cases hb : H.blankB s.kp with
  | true => exact head_blank hF h hl hr hb
  | false =>
    cases hbl : s.bl with
    | true => exact head_late hF h hl hr hb hbl
    | false =>
      cases hx : decH s.kp with
      | inl x => exact head_bad hF h hR.sm hl hr hb hbl hL.laid hG x hx
      | inr y =>
        obtain ⟨hy1, hy2⟩ := dec_size hR.sm.kp hx
        refine head_yes hF h hR.sm hl hr hb hbl hL.laid hG y hx (fun W pm hm hs hc => ?_)
        have hW := hL.moved hm hs
        have hS : Small (clS s (clsP y.typ)) := ⟨hR.sm.kp, hR.sm.kl, hR.sm.gl, hR.sm.lo⟩
        have hpx : y.prefx.size ≤ 512 := by
          rw [hy1]
          show (if H.isU s.kp then H.tx s.kp 345 500 else ⟨#[]⟩).size ≤ 512
          split
          · have := tx_size s.kp 345 500; omega
          · exact Nat.zero_le _
        have hnm : y.name.size ≤ 512 := by
          rw [hy1]
          show (H.tx s.kp 0 100).size ≤ 512
          have := tx_size s.kp 0 100; omega
        exact beginThing_w hF.toFok hF.make hF.esize pm hS y hW.ev (by omega) (by omega) (by have := hR.nm; show s.nm.size ≤ _; omega) (fun k => Nat.le_trans (ah_val (M := 8192) hR.gv hR.lv k) (by omega))

set_option maxRecDepth 20000 in
set_option maxHeartbeats 4000000 in
theorem turn_fin (h : Pm w g s kv gv lv) (hp : s.pt = 2) (hr : s.rd ≤ 4611686018427387904) :
    Calls Tryz.prog 25 #[.pointer (some ⟨g, 0, none⟩)] w fun ev w' => ∃ v, ev = .returned v ∧ Out w w' g kv gv lv (Pu.fill s) v [(.fin s.rd, .slice none 0 0)] := by
  have qf := fill_w h hr
  have c0 := h.cells
  have hz := zeroEv
  rw [hp] at c0
  generalize hPP : (fun (ev : Ending) (w' : World) => ∃ v, ev = .returned v ∧ Out w w' g kv gv lv (Pu.fill s) v [(.fin s.rd, .slice none 0 0)]) = PP
  have HPP : Hid (∀ W, Pm W g (Pu.fill s) (emptied kv) gv lv ∧ Bx g w W (pCells (Pu.fill s) (emptied kv) gv lv) → W.heap.size = w.heap.size ∧ W.cell? ⟨g, 0, none⟩ = some (.int .i64 (s.rd : Int)) ∧ PP (.returned (.slice (some ⟨w.heap.size, 0, none⟩) 1 1)) (W.alloc (.cells (evCells (.fin s.rd) (.slice none 0 0)).toArray 44))) := fun W pb => by
    rw [← hPP]
    exact ⟨pb.2.size, pb.2.cell 0, _, rfl, (nx_expect h pb.1 pb.2).one _ _ _ rfl pb.2.size (fun _ _ => by simp)⟩
  clear hPP h
  simp only [evCells, zero10, List.cons_append, List.nil_append] at HPP
  go_enter Tryz.func25, Tryz.ntmps25
  go_wp2_with (go_at_call 41; refine qf.mono ?_; rintro ev w2 ⟨rfl, pb⟩; obtain ⟨z2, c2, FF⟩ := HPP.out _ pb; clear pb HPP c0 qf)
  exact FF

set_option maxRecDepth 20000 in
set_option maxHeartbeats 4000000 in
theorem turn_fill (h : Pm w g s kv gv lv) (hp : s.pt = 3) :
    Calls Tryz.prog 25 #[.pointer (some ⟨g, 0, none⟩)] w fun ev w' => ev = .returned (.slice none 0 0) ∧ Nx w w' g kv gv lv (Pu.expect s 0 512) := by
  have q := expect_w h 0 512
  have c0 := h.cells
  rw [hp] at c0
  have HN : Hid (∀ W, Pm W g (Pu.expect s 0 512) (emptied kv) gv lv ∧ Bx g w W (pCells (Pu.expect s 0 512) (emptied kv) gv lv) → Nx w W g kv gv lv (Pu.expect s 0 512)) := fun W pb => nx_expect h pb.1 pb.2
  clear h
  generalize (pCells (Pu.expect s 0 512) (emptied kv) gv lv) = CC at *
  generalize Pu.expect s 0 512 = SS at *
  go_enter Tryz.func25, Tryz.ntmps25
  go_wp2_with (go_at_call 42; refine q.mono ?_; rintro ev w2 ⟨rfl, pb⟩)
  go_ret
  exact ⟨rfl, HN.out _ pb⟩

set_option maxRecDepth 20000 in
set_option maxHeartbeats 4000000 in
theorem turn_call (h : Pm w g s kv gv lv) (hp : s.pt = 0) {Q : Ending → World → Prop} (q : Calls Tryz.prog 39 #[.pointer (some ⟨g, 0, none⟩)] w fun ev w' => ∃ v, ev = .returned v ∧ Q (.returned v) w') :
    Calls Tryz.prog 25 #[.pointer (some ⟨g, 0, none⟩)] w Q := by
  have c0 := h.cells
  rw [hp] at c0
  clear h
  go_enter Tryz.func25, Tryz.ntmps25
  go_wp2_with (go_at_call 39; refine q.mono ?_; rintro ev w2 ⟨v, rfl, o⟩)
  exact o
set_option maxRecDepth 20000 in
set_option maxHeartbeats 4000000 in
theorem turn_meta (h : Pm w g s kv gv lv) (hp : s.pt = 1) {Q : Ending → World → Prop} (q : Calls Tryz.prog 40 #[.pointer (some ⟨g, 0, none⟩)] w fun ev w' => ∃ v, ev = .returned v ∧ Q (.returned v) w') :
    Calls Tryz.prog 25 #[.pointer (some ⟨g, 0, none⟩)] w Q := by
  have c0 := h.cells
  rw [hp] at c0
  clear h
  go_enter Tryz.func25, Tryz.ntmps25
  go_wp2_with (go_at_call 40; refine q.mono ?_; rintro ev w2 ⟨v, rfl, o⟩)
  exact o

theorem turn_w (hF : Fall F0) (h : Pm w g s kv gv lv) (hR : Rok s) (hlf : s.lf = 0) (h4 : s.pt ≠ 4) (hr : s.rd ≤ 4611686018427387904) (hL : Lb w) (hG : 14 ≤ g) :
    Calls Tryz.prog 25 #[.pointer (some ⟨g, 0, none⟩)] w fun ev w' => ∃ v L, ev = .returned v ∧ Out w w' g kv gv lv (Pu.turn F0 s).1 v L ∧ L.map (·.1) = (Pu.turn F0 s).2 := by
  have hp4 := hR.p4
  unfold Pu.turn
  by_cases c0 : s.pt = 0
  · rw [if_pos c0]
    refine turn_call h c0 ((endHeader_w hF h hR c0 hlf hr hL hG).mono ?_)
    rintro ev w' ⟨v, L, rfl, o, m⟩
    exact ⟨v, rfl, v, L, rfl, o, m⟩
  · rw [if_neg c0]
    by_cases c1 : s.pt = 1
    · rw [if_pos c1]
      refine turn_meta h c1 ((endMeta_w hF.toFok h hR.sm (hR.p1 c1).2 hL.xv hr).mono ?_)
      rintro ev w' ⟨v, L, rfl, o, m⟩
      exact ⟨v, rfl, v, L, rfl, o, m⟩
    · rw [if_neg c1]
      by_cases c2 : s.pt = 2
      · rw [if_pos c2]
        refine (turn_fin h c2 hr).mono ?_
        rintro ev w' ⟨v, rfl, o⟩
        exact ⟨v, _, rfl, o, rfl⟩
      · rw [if_neg c2]
        refine (turn_fill h (by omega)).mono ?_
        rintro ev w' ⟨rfl, o⟩
        exact ⟨_, [], rfl, o.out, rfl⟩
end
end Go.Proofs.YtnmmaedngdibeaaGreatDoor

namespace Go.Proofs.YtnmmaedngdibeaaGreatDoor
open Go.RowKit
set_option linter.unusedVariables false
set_option linter.unusedSimpArgs false

theorem infoB : (Tryz.prog.info? 5).map (fun i => (i.zero, i.size, i.bytes)) = some (some (.int .u8 0), 1, 1) := by kernel_rfl
theorem cellsOf_len (zs : List Int) : (H.cellsOf zs).length = zs.length * 1 := by simp [H.cellsOf]
theorem cellsOf_one (zs : List Int) : ∀ u ∈ H.cellsOf zs, u.oneCell' = true := by
  intro u hu
  simp only [H.cellsOf, List.mem_map] at hu
  obtain ⟨x, _, rfl⟩ := hu
  rfl
theorem cellsOf_app (a b : List Int) : H.cellsOf a ++ H.cellsOf b = H.cellsOf (a ++ b) := by simp [H.cellsOf]

/-- bytes in memory that somebody hands in -/
def Bs (w : World) (B o : Nat) (zs : List Int) : Prop := ∀ j u, (H.cellsOf zs)[j]? = some u → w.cell? ((⟨B, o, none⟩ : Addr).add j) = some u
theorem add_at (B o j : Nat) : (⟨B, o, none⟩ : Addr).add j = ⟨B, o + j, none⟩ := by
  unfold Addr.add
  split
  · rename_i h; subst h; rfl
  · rfl
theorem Bs.moved {w w' : World} {B o : Nat} {zs : List Int} (h : Bs w B o zs) (hb : w'.heap[B]? = w.heap[B]?) : Bs w' B o zs := fun j u hj => by
  have := h j u hj
  rw [add_at] at this ⊢
  simp only [World.cell?] at this ⊢
  rw [hb]
  exact this
theorem Bs.take {w : World} {B o : Nat} {zs : List Int} (h : Bs w B o zs) (n : Nat) : Bs w B o (zs.take n) := fun j u hj => h j u (by
  simp only [H.cellsOf, List.map_take] at hj ⊢
  rw [List.getElem?_take] at hj
  split at hj
  · exact hj
  · cases hj)
theorem Bs.drop {w : World} {B o : Nat} {zs : List Int} (h : Bs w B o zs) (n : Nat) : Bs w B (o + n) (zs.drop n) := fun j u hj => by
  have := h (n + j) u (by
    simp only [H.cellsOf, List.map_drop] at hj ⊢
    rw [List.getElem?_drop] at hj
    exact hj)
  rw [add_at] at this ⊢
  rw [Nat.add_assoc]
  exact this

set_option maxRecDepth 20000 in
set_option maxHeartbeats 4000000 in
theorem clone_w (w : World) (B o c : Nat) (zs : List Int) (h : Bs w B o zs) (hB : B < w.heap.size) (hl : zs.length ≤ 1048576) :
    Calls Tryz.prog 38 #[.slice (some ⟨B, o, none⟩) zs.length c] w fun e w' => ∃ G cc, e = .returned (.slice (some ⟨G, 0, none⟩) zs.length cc) ∧ zs.length ≤ cc ∧ cc ≤ 9223372036854775807 ∧ Sq w' G zs ∧ w.heap.size ≤ G ∧ G < w'.heap.size ∧ Below w.heap.size w w' := by
  have hnil := fun W => Lib.run_eql_slice_nil W 22 5 (some ⟨B, o, none⟩) zs.length c 0 0 Tryz.underlying22
  obtain ⟨i0, hi, hz0, hz1, hz2⟩ := info_parts infoB
  have b1 : Below w.heap.size w (w.alloc (.cells #[] 5)) := (Below.refl _ w).alloc (Nat.le_refl _) _
  have o1 : Hid ((w.alloc (.cells #[] 5)).ownsRow w.heap.size 5 1 (.slice (some ⟨w.heap.size, 0, none⟩) 0 0) 0 []) := ⟨rfl, .inr ⟨w.heap.size, 0, #[], rfl, Nat.le_refl _, heap_alloc_new w _, Nat.le_refl _, by decide, by simp, by simp⟩⟩
  have h1 : Hid (Bs (w.alloc (.cells #[] 5)) B o zs) := h.moved (b1.block B hB)
  have HB1 : Hid _ := b1
  clear h b1
  go_enter Tryz.func38, Tryz.ntmps38
  go_wp2_with (at_builtin; refine wpList_append_own_at _ rfl _ _ 22 rfl w.heap.size 5 i0 _ 1 1 Tryz.underlying22 hi hz0 hz1 hz2 rfl (by decide) _ _ _ rfl o1.out ⟨B, o, none⟩ zs.length c (H.cellsOf zs) rfl (cellsOf_len zs) h1.out (cellsOf_one zs) (by unfold maxLen; omega) (by omega) (by simp) ?_; intro v2 w2 o2 g2 nz2 at2)
  have g2' : (w.alloc (.cells #[] 5)).grownBy w2 (some w.heap.size) := g2
  have nz2' : v2 = .slice none 0 0 ↔ Value.slice (some ⟨w.heap.size, 0, none⟩) 0 0 = .slice none 0 0 ∧ zs.length = 0 := nz2
  clear g2 nz2 at2
  go_ret
  simp only [List.nil_append, Nat.zero_add] at o2
  have hs1 : (w.alloc (.cells #[] 5)).heap.size = w.heap.size + 1 := by simp
  rcases id o2.2 with ⟨e1, e2⟩ | ⟨G, cc, cur, e1, e2, e3, e4, e5, e6, e7⟩
  · exfalso
    have := (nz2'.1 e1).1
    cases this
  · refine ⟨G, cc, by rw [e1]; rfl, e4, by unfold maxLen at e5; exact e5, ⟨?_, fun _ => ⟨cur, _, e3⟩⟩, e2, lt_of_heap e3, ?_⟩
    · intro hz
      exact ⟨_, rfl, o2.cells (g := G) (by rw [e1]; rfl)⟩
    · exact ⟨g2'.os.trans HB1.out.os, g2'.tape.trans HB1.out.tape, g2'.output.trans HB1.out.output, by have := g2'.size; omega, fun k hk => (g2'.block k (by omega) (by simp; omega)).trans (HB1.out.block k hk)⟩

section
variable {w : World} {g : Nat} {s : PsR} {kv gv lv : Value}

/-- a parser that has read so many bytes more -/
def rdS (s : PsR) (n : Nat) : PsR := { s with rd := s.rd + n, lf := s.lf - n }
theorem rd_box (h : Pm w g s kv gv lv) (n : Nat) : Bx g w ((w.setCell ⟨g, 0, none⟩ (.int .i64 ((s.rd + n : Nat) : Int))).setCell ⟨g, 2, none⟩ (.int .i64 ((s.lf - n : Nat) : Int))) (pCells (rdS s n) kv gv lv) :=
  ((Bx.mk0 h.box).set 0 _).set 2 _
theorem rd_pm (h : Pm w g s kv gv lv) (n : Nat) : Pm ((w.setCell ⟨g, 0, none⟩ (.int .i64 ((s.rd + n : Nat) : Int))).setCell ⟨g, 2, none⟩ (.int .i64 ((s.lf - n : Nat) : Int))) g (rdS s n) kv gv lv :=
  h.boxed (s2 := rdS s n) rfl rfl rfl (rd_box h n)

/-- what was kept has grown -/
theorem kept_grown {W W3 : World} (h : Pm W g s kv gv lv) (zs : List Int) {v : Value} (o : W3.ownsRow 0 5 1 v (s.kp.length + zs.length) (H.cellsOf s.kp ++ H.cellsOf zs)) (gr : W.grownBy W3 kv.ownBlock) (at3 : v.ownBlock = kv.ownBlock ∨ v.ownBlock = some W.heap.size) :
    W3.heap[g]? = some (.cells (pCells s kv gv lv) 72 (0, 0)) ∧ Nx W (W3.setCell ⟨g, 3, none⟩ v) g kv gv lv { s with kp := s.kp ++ zs } := by
  have hg := h.lt
  have hk := h.keptNe
  have b1 : W3.heap[g]? = some (.cells (pCells s kv gv lv) 72 (0, 0)) := (gr.block g hg (Ne.symm hk)).trans h.box
  have b2 := Bx.set (Bx.mk0 b1) 3 v
  have hvg : v.ownBlock ≠ some g := by
    rcases at3 with e | e
    · rw [e]; exact hk
    · rw [e]; intro q; injection q with q; omega
  have ne : ∀ {u : Value} {xs : List Value} {n : Nat}, W.ownsRow 0 59 2 u n xs → ∀ k, u.ownBlock = some k → k < W.heap.size ∧ kv.ownBlock ≠ some k := fun hu k hk1 => by
    obtain ⟨l1, cur, e1⟩ := own_lt hu hk1
    refine ⟨l1, fun hk2 => ?_⟩
    obtain ⟨_, cur2, e2⟩ := own_lt h.kept hk2
    rw [e1] at e2
    injection e2 with e2
    injection e2 with _ e2
    cases e2
  refine ⟨b1, v, gv, lv, ⟨b2.box, ?_, ?_, ?_, h.apart⟩, ?_, ?_⟩
  · show World.ownsRow _ 0 5 1 v (s.kp ++ zs).length (H.cellsOf (s.kp ++ zs))
    rw [List.length_append, ← cellsOf_app]
    exact own_moved o fun k hk1 => b2.block k (by intro e; subst e; exact hvg hk1)
  · exact own_moved h.glob fun k hk1 => (b2.block k (by intro e; subst e; exact h.globNe hk1)).trans (gr.block k (ne h.glob k hk1).1 (Ne.symm (ne h.glob k hk1).2))
  · exact own_moved h.loc fun k hk1 => (b2.block k (by intro e; subst e; exact h.locNe hk1)).trans (gr.block k (ne h.loc k hk1).1 (Ne.symm (ne h.loc k hk1).2))
  · exact ⟨b2.os.trans gr.os, b2.tape.trans gr.tape, b2.output.trans gr.output, by rw [b2.size]; exact gr.size, fun k hk1 hn => (b2.block k (fun e => hn (.inl e))).trans (gr.block k hk1 (fun e => hn (.inr (.inl e.symm))))⟩
  · intro k hk1
    rcases hk1 with rfl | e | e | e
    · exact .inl (.inl rfl)
    · rcases at3 with q | q
      · exact .inl (.inr (.inl (q.symm.trans e)))
      · rw [q] at e; injection e with e; right; omega
    · exact .inl (.inr (.inr (.inl e)))
    · exact .inl (.inr (.inr (.inr e)))

theorem Nx.after {w1 w2 : World} {s2 : PsR} {C : Array Value} (b : Bx g w w1 C) (h : Nx w1 w2 g kv gv lv s2) : Nx w w2 g kv gv lv s2 := by
  obtain ⟨kv', gv', lv', h1, h2, h3⟩ := h
  exact ⟨kv', gv', lv', h1, (b.mv kv gv lv).trans h2 (fun x hx => .inl hx), fun k hk => by rcases h3 k hk with q | q; exact .inl q; right; rw [← b.size]; exact q⟩

set_option maxRecDepth 20000 in
set_option maxHeartbeats 4000000 in
theorem take_kept (h : Pm w g s kv gv lv) (hR : Rok s) (hp : s.pt = 0 ∨ s.pt = 1) (B o c : Nat) (zs : List Int) (hz : Bs w B o zs) (hB : B < w.heap.size) (hBg : B ≠ g) (hl : zs.length ≤ s.lf) (hr : s.rd + zs.length ≤ 4611686018427387904) :
    Calls Tryz.prog 24 #[.pointer (some ⟨g, 0, none⟩), .slice (some ⟨B, o, none⟩) zs.length c] w fun ev w' => ev = .returned (.slice none 0 0) ∧ Nx w w' g kv gv lv { rdS s zs.length with kp := s.kp ++ zs } := by
  have hkl : s.kp.length + zs.length ≤ 8192 := by
    rcases hp with e | e
    · have := hR.p0 e; omega
    · have := (hR.p1 e).1; omega
  have hlf := hR.lf
  obtain ⟨i0, hi, hz0, hz1, hz2⟩ := info_parts infoB
  have bx := rd_box h zs.length
  have p1 := rd_pm h zs.length
  have hz1' : Hid (Bs ((w.setCell ⟨g, 0, none⟩ (.int .i64 ((s.rd + zs.length : Nat) : Int))).setCell ⟨g, 2, none⟩ (.int .i64 ((s.lf - zs.length : Nat) : Int))) B o zs) := hz.moved (bx.block B hBg)
  have hgl := h.lt
  have c0 := h.cells
  have f0 := h.froz
  have c1 := p1.cells
  have f1 := p1.froz
  obtain ⟨ka, kc, hkv, _, _, _⟩ := own_sl h.kept
  have HK : Hid _ := p1.kept
  have hw1 : IntKind.i64.wrap ((s.rd : Int) + (zs.length : Int)) = ((s.rd + zs.length : Nat) : Int) := by rw [IntKind.wrap_i64]; omega
  have hw2 : IntKind.i64.wrap ((s.lf : Int) - (zs.length : Int)) = ((s.lf - zs.length : Nat) : Int) := by rw [IntKind.wrap_i64]; omega
  have HG : Hid (∀ W3 v, W3.ownsRow 0 5 1 v (s.kp.length + zs.length) (H.cellsOf s.kp ++ H.cellsOf zs) → ((w.setCell ⟨g, 0, none⟩ (.int .i64 ((s.rd + zs.length : Nat) : Int))).setCell ⟨g, 2, none⟩ (.int .i64 ((s.lf - zs.length : Nat) : Int))).grownBy W3 kv.ownBlock → (v.ownBlock = kv.ownBlock ∨ v.ownBlock = some ((w.setCell ⟨g, 0, none⟩ (.int .i64 ((s.rd + zs.length : Nat) : Int))).setCell ⟨g, 2, none⟩ (.int .i64 ((s.lf - zs.length : Nat) : Int))).heap.size) →
      W3.cell? ⟨g, 3, none⟩ = some kv ∧ W3.frozen? ⟨g, 3, none⟩ = false ∧ g < W3.heap.size ∧ Nx w (W3.setCell ⟨g, 3, none⟩ v) g kv gv lv { rdS s zs.length with kp := s.kp ++ zs }) := fun W3 v a1 a2 a3 => by
    obtain ⟨e1, e2⟩ := kept_grown p1 zs a1 a2 a3
    have b := Bx.mk0 e1
    exact ⟨b.cell 3, b.froz 3, lt_of_heap e1, e2.after bx⟩
  clear h p1 bx hz hR
  have epx : (rdS s zs.length).pt = s.pt := rfl
  have erd : (rdS s zs.length).rd = s.rd + zs.length := rfl
  have elf : (rdS s zs.length).lf = s.lf - zs.length := rfl
  have ekp : (rdS s zs.length).kp = s.kp := rfl
  rw [epx, erd, elf] at c1
  rw [ekp] at HK
  subst hkv
  clear epx erd elf ekp hr
  generalize hrn : s.rd + zs.length = rn at *
  generalize hln : s.lf - zs.length = ln at *
  replace hrn := hid hrn
  replace hln := hid hln
  rcases hp with e | e
  all_goals
    rw [e] at c0 c1
    clear e
    go_enter Tryz.func24, Tryz.ntmps24
    go_upto_region 3 with fail
    generalize (w.setCell _ _).setCell _ _ = W2 at *
    go_wp2_with (at_builtin; refine wpList_append_own_at _ rfl _ _ 22 rfl 0 5 i0 _ 1 1 Tryz.underlying22 hi hz0 hz1 hz2 rfl (by decide) _ _ _ rfl HK.out ⟨B, o, none⟩ zs.length c (H.cellsOf zs) rfl (cellsOf_len zs) hz1'.out (cellsOf_one zs) (by unfold maxLen; omega) (by omega) (Nat.zero_le _) ?_; intro v3 w3 o3 g3 nz3 at3; obtain ⟨c9, f9, l9, N9⟩ := HG.out w3 v3 o3 g3 at3; obtain ⟨a3, k3, rfl, _, _, _⟩ := own_sl o3)
    go_ret
    exact ⟨rfl, N9⟩

/-- bytes of an entry: told -/
theorem told_data (h : Pm w g s kv gv lv) (zs : List Int) {W4 : World} {G cc : Nat} (b : Below ((w.setCell ⟨g, 0, none⟩ (.int .i64 ((s.rd + zs.length : Nat) : Int))).setCell ⟨g, 2, none⟩ (.int .i64 ((s.lf - zs.length : Nat) : Int))).heap.size ((w.setCell ⟨g, 0, none⟩ (.int .i64 ((s.rd + zs.length : Nat) : Int))).setCell ⟨g, 2, none⟩ (.int .i64 ((s.lf - zs.length : Nat) : Int))) W4)
    (hc : zs.length ≤ cc) (hc2 : cc ≤ 9223372036854775807) (hs : Sq W4 G zs) (hG : w.heap.size ≤ G) (hG2 : G < W4.heap.size) (C : Array Value) (hC : C.toList = evCells (.dat zs (s.rd + zs.length)) (.slice (some ⟨G, 0, none⟩) zs.length cc)) :
    Out w (W4.alloc (.cells C 44)) g kv gv lv (rdS s zs.length) (.slice (some ⟨W4.heap.size, 0, none⟩) 1 1) [(.dat zs (s.rd + zs.length), .slice (some ⟨G, 0, none⟩) zs.length cc)] := by
  have bx := rd_box h zs.length
  have p1 := (rd_pm h zs.length).grow b
  have ba := (Below.refl _ W4).alloc (Nat.le_refl _) (.cells C 44)
  have hsz := b.size
  have hw := bx.size
  refine ⟨kv, gv, lv, p1.grow ba, ?_, fun k hk => .inl hk, one_ev W4 _ _ C hC, ?_, ?_⟩
  · exact ((bx.mv kv gv lv).trans (Mv.of_below (O := fun _ => False) b) (fun x hx => hx.elim)).trans (Mv.of_below (O := fun _ => False) ba) (fun x hx => hx.elim)
  · intro k hk
    simp [Value.ownBlock] at hk
    subst hk
    exact ⟨by omega, fun hm => by have := p1.mine hm; omega⟩
  · intro x hx
    simp at hx
    subst hx
    refine ⟨G, cc, rfl, hc, hc2, ⟨?_, fun hz => ?_⟩, hG, by simp; omega, fun hm => by have := h.mine hm; omega⟩
    case refine_2 =>
      obtain ⟨cs, ty, e⟩ := hs.2 hz
      exact ⟨cs, ty, (ba.block G hG2).trans e⟩
    intro hz
    obtain ⟨ad, e, hcell⟩ := hs.1 hz
    cases e
    refine ⟨_, rfl, fun j u hj => ?_⟩
    have := hcell j u hj
    rw [add_at] at this ⊢
    exact (ba.cell (p := ⟨G, 0 + j, none⟩) hG2).trans this

set_option maxRecDepth 20000 in
set_option maxHeartbeats 4000000 in
theorem take_data (h : Pm w g s kv gv lv) (hR : Rok s) (hp : s.pt = 2) (B o c : Nat) (zs : List Int) (hz : Bs w B o zs) (hB : B < w.heap.size) (hBg : B ≠ g) (hl : zs.length ≤ s.lf) (hl2 : zs.length ≤ 1048576) (hr : s.rd + zs.length ≤ 4611686018427387904) :
    Calls Tryz.prog 24 #[.pointer (some ⟨g, 0, none⟩), .slice (some ⟨B, o, none⟩) zs.length c] w fun ev w' => ∃ v L, ev = .returned v ∧ Out w w' g kv gv lv (rdS s zs.length) v L ∧ L.map (·.1) = [.dat zs (s.rd + zs.length)] := by
  have hlf := hR.lf
  have bx := rd_box h zs.length
  have p1 := rd_pm h zs.length
  have hz1 := hz.moved (bx.block B hBg)
  have hgl := h.lt
  have c0 := h.cells
  have f0 := h.froz
  have c1 := p1.cells
  have hgl2 := p1.lt
  have hzv := zeroEv
  have hw1 : IntKind.i64.wrap ((s.rd : Int) + (zs.length : Int)) = ((s.rd + zs.length : Nat) : Int) := by rw [IntKind.wrap_i64]; omega
  have hw2 : IntKind.i64.wrap ((s.lf : Int) - (zs.length : Int)) = ((s.lf - zs.length : Nat) : Int) := by rw [IntKind.wrap_i64]; omega
  have hbs := bx.size
  have epx : (rdS s zs.length).pt = s.pt := rfl
  have erd : (rdS s zs.length).rd = s.rd + zs.length := rfl
  rw [epx, erd, hp] at c1
  rw [hp] at c0
  obtain ⟨PP, hPP⟩ : ∃ PP : Ending → World → Prop, PP = fun ev w' => ∃ v L, ev = .returned v ∧ Out w w' g kv gv lv (rdS s zs.length) v L ∧ L.map (·.1) = [.dat zs (s.rd + zs.length)] := ⟨_, rfl⟩
  have HT : Hid (∀ W4 G cc, Below ((w.setCell ⟨g, 0, none⟩ (.int .i64 ((s.rd + zs.length : Nat) : Int))).setCell ⟨g, 2, none⟩ (.int .i64 ((s.lf - zs.length : Nat) : Int))).heap.size ((w.setCell ⟨g, 0, none⟩ (.int .i64 ((s.rd + zs.length : Nat) : Int))).setCell ⟨g, 2, none⟩ (.int .i64 ((s.lf - zs.length : Nat) : Int))) W4 →
      zs.length ≤ cc → cc ≤ 9223372036854775807 → Sq W4 G zs → ((w.setCell ⟨g, 0, none⟩ (.int .i64 ((s.rd + zs.length : Nat) : Int))).setCell ⟨g, 2, none⟩ (.int .i64 ((s.lf - zs.length : Nat) : Int))).heap.size ≤ G → G < W4.heap.size →
      PP (.returned (.slice (some ⟨W4.heap.size, 0, none⟩) 1 1)) (W4.alloc (.cells #[.int .i64 2, .string ⟨#[]⟩, .string ⟨#[]⟩, .int .i64 0, .int .i64 0, .int .i64 0, .int .i64 0, .int .i64 0, .int .i64 0, .string ⟨#[]⟩, .string ⟨#[]⟩, .slice (some ⟨G, 0, none⟩) zs.length cc, .nilIface, .int .i64 ((s.rd + zs.length : Nat) : Int)] 44))) := fun W4 G cc b a1 a2 a3 a4 a5 => by
    rw [hPP]
    exact ⟨_, _, rfl, told_data h zs b a1 a2 a3 (by omega) a5 _ rfl, rfl⟩
  rw [← hPP]
  clear hPP h hR p1 bx epx erd hr hp
  generalize hrn : s.rd + zs.length = rn at *
  generalize hln : s.lf - zs.length = ln at *
  have hrn' : Hid _ := hrn
  have hln' : Hid _ := hln
  clear hrn hln
  go_enter Tryz.func24, Tryz.ntmps24
  go_upto_region 3 with fail
  generalize (w.setCell _ _).setCell _ _ = W2 at *
  have y0 := c1 0
  simp at y0
  have hS0 : (fun W => (W.cell? ⟨g, 0, none⟩ = some (.int .i64 (rn : Int)) ∧ Below W2.heap.size W2 W ∧ Bs W B o zs ∧ B < W.heap.size)) W2 := ⟨y0, Below.refl _ _, hz1, by omega⟩
  have hS1 : (fun W => (W.cell? ⟨g, 0, none⟩ = some (.int .i64 (rn : Int)) ∧ Below W2.heap.size W2 W ∧ Bs W B o zs ∧ B < W.heap.size)) W2.drew := ⟨y0, (Below.refl _ _).drew, hz1, by show B < W2.heap.size; omega⟩
  have HS2 : Hid (∀ W W' : World, (W.cell? ⟨g, 0, none⟩ = some (.int .i64 (rn : Int)) ∧ Below W2.heap.size W2 W ∧ Bs W B o zs ∧ B < W.heap.size) → Below W.heap.size W W' → (fun W => (W.cell? ⟨g, 0, none⟩ = some (.int .i64 (rn : Int)) ∧ Below W2.heap.size W2 W ∧ Bs W B o zs ∧ B < W.heap.size)) W') := fun W W' h b => ⟨(b.cell (p := ⟨g, 0, none⟩) (by have := h.2.1.size; show g < _; omega)).trans h.1, h.2.1.trans (b.mono h.2.1.size), h.2.2.1.moved (b.block B h.2.2.2), by have := b.size; have := h.2.2.2; omega⟩
  have HQ : Hid (∀ W, (W.cell? ⟨g, 0, none⟩ = some (.int .i64 (rn : Int)) ∧ Below W2.heap.size W2 W ∧ Bs W B o zs ∧ B < W.heap.size) → Calls Tryz.prog 38 #[.slice (some ⟨B, o, none⟩) zs.length c] W fun e w' => ∃ G cc, e = .returned (.slice (some ⟨G, 0, none⟩) zs.length cc) ∧ zs.length ≤ cc ∧ cc ≤ 9223372036854775807 ∧ Sq w' G zs ∧ W.heap.size ≤ G ∧ G < w'.heap.size ∧ Below W.heap.size W w') := fun W h => clone_w W B o c zs h.2.2.1 h.2.2.2 hl2
  simp only at hS0 hS1 HS2
  clear hz1 hz c0 f0
  go_upto_region 8 with fail
  go_region_held3 (fun W => (W.cell? ⟨g, 0, none⟩ = some (.int .i64 (rn : Int)) ∧ Below W2.heap.size W2 W ∧ Bs W B o zs ∧ B < W.heap.size)) (first | assumption | exact hS0 | exact hS1 | exact HS2.out _ _ (by assumption) ((Below.refl _ _).alloc (Nat.le_refl _) _) | go_keep) ((go_at_call 38; refine (HQ.out _ (by assumption)).mono ?_; rintro e w4 ⟨G, cc, rfl, k1, k2, k3, k4, k5, b4⟩; have hS2 := HS2.out _ _ (by assumption) b4))
  go_wp2
  exact HT.out _ _ _ hS2.2.1 k1 k2 k3 k4 k5

theorem take_fill (h : Pm w g s kv gv lv) (hR : Rok s) (hp : s.pt = 3) (B o c : Nat) (zs : List Int) (hl : zs.length ≤ s.lf) (hr : s.rd + zs.length ≤ 4611686018427387904) :
    Calls Tryz.prog 24 #[.pointer (some ⟨g, 0, none⟩), .slice (some ⟨B, o, none⟩) zs.length c] w fun ev w' => ev = .returned (.slice none 0 0) ∧ Nx w w' g kv gv lv (rdS s zs.length) := by
  have hlf := hR.lf
  have bx := rd_box h zs.length
  have p1 := rd_pm h zs.length
  have hgl := h.lt
  have c0 := h.cells
  have f0 := h.froz
  have c1 := p1.cells
  have hgl2 := p1.lt
  have hw1 : IntKind.i64.wrap ((s.rd : Int) + (zs.length : Int)) = ((s.rd + zs.length : Nat) : Int) := by rw [IntKind.wrap_i64]; omega
  have hw2 : IntKind.i64.wrap ((s.lf : Int) - (zs.length : Int)) = ((s.lf - zs.length : Nat) : Int) := by rw [IntKind.wrap_i64]; omega
  have epx : (rdS s zs.length).pt = s.pt := rfl
  rw [epx, hp] at c1
  rw [hp] at c0
  have HN : Hid (Nx w ((w.setCell ⟨g, 0, none⟩ (.int .i64 ((s.rd + zs.length : Nat) : Int))).setCell ⟨g, 2, none⟩ (.int .i64 ((s.lf - zs.length : Nat) : Int))) g kv gv lv (rdS s zs.length)) := ⟨kv, gv, lv, p1, bx.mv kv gv lv, fun k hk => .inl hk⟩
  clear h hR p1 bx epx hr hp
  generalize hrn : s.rd + zs.length = rn at *
  generalize hln : s.lf - zs.length = ln at *
  have hrn' : Hid _ := hrn
  have hln' : Hid _ := hln
  clear hrn hln
  go_enter Tryz.func24, Tryz.ntmps24
  go_upto_region 3 with fail
  generalize (w.setCell _ _).setCell _ _ = W2 at *
  go_wp2
  go_ret
  exact ⟨rfl, HN.out⟩

/-- take, whole -/
theorem take_w (h : Pm w g s kv gv lv) (hR : Rok s) (h4 : s.pt ≠ 4) (B o c : Nat) (zs : List Int) (hz : Bs w B o zs) (hB : B < w.heap.size) (hBg : B ≠ g) (hl : zs.length ≤ s.lf) (hl2 : zs.length ≤ 1048576) (hr : s.rd + zs.length ≤ 4611686018427387904) :
    Calls Tryz.prog 24 #[.pointer (some ⟨g, 0, none⟩), .slice (some ⟨B, o, none⟩) zs.length c] w fun ev w' => ∃ v L, ev = .returned v ∧ Out w w' g kv gv lv (Pu.take (E := E.En) s zs).1 v L ∧ L.map (·.1) = (Pu.take (E := E.En) s zs).2 := by
  have hp4 := hR.p4
  unfold Pu.take
  by_cases c0 : s.pt = 0 ∨ s.pt = 1
  · simp only [if_pos c0]
    refine (take_kept h hR c0 B o c zs hz hB hBg hl hr).mono ?_
    rintro ev w' ⟨rfl, o⟩
    exact ⟨_, [], rfl, o.out, rfl⟩
  · simp only [if_neg c0]
    by_cases c2 : s.pt = 2
    · simp only [if_pos c2]
      exact take_data h hR c2 B o c zs hz hB hBg hl hl2 hr
    · simp only [if_neg c2]
      refine (take_fill h hR (by omega) B o c zs hl hr).mono ?_
      rintro ev w' ⟨rfl, o⟩
      exact ⟨_, [], rfl, o.out, rfl⟩
end
end Go.Proofs.YtnmmaedngdibeaaGreatDoor

namespace Go.Proofs.YtnmmaedngdibeaaGreatDoor
open Go.RowKit
set_option linter.unusedVariables false
set_option linter.unusedSimpArgs false

/-- a parser behind a call, with its own rows by name, and what it told -/
structure On (w W : World) (g : Nat) (kv gv lv kv' gv' lv' : Value) (s : PsR) (v : Value) (L : List (EvE × Value)) : Prop where
  pm : Pm W g s kv' gv' lv'
  mv : Mv (Mine g kv gv lv) w W
  mine : ∀ k, Mine g kv' gv' lv' k → Mine g kv gv lv k ∨ w.heap.size ≤ k
  evs : EvS W v L
  blk : ∀ k, v.ownBlock = some k → w.heap.size ≤ k ∧ ¬ Mine g kv' gv' lv' k
  dat : ∀ x ∈ L, DatOk w W (Mine g kv' gv' lv') x

theorem Out.on {w W : World} {g : Nat} {kv gv lv : Value} {s : PsR} {v : Value} {L : List (EvE × Value)} (h : Out w W g kv gv lv s v L) : ∃ kv' gv' lv', On w W g kv gv lv kv' gv' lv' s v L := by
  obtain ⟨kv', gv', lv', h1, h2, h3, h4, h5, h6⟩ := h
  exact ⟨kv', gv', lv', h1, h2, h3, h4, h5, h6⟩
theorem On.out {w W : World} {g : Nat} {kv gv lv kv' gv' lv' : Value} {s : PsR} {v : Value} {L : List (EvE × Value)} (h : On w W g kv gv lv kv' gv' lv' s v L) : Out w W g kv gv lv s v L :=
  ⟨kv', gv', lv', h.pm, h.mv, h.mine, h.evs, h.blk, h.dat⟩
theorem On.start {w : World} {g : Nat} {kv gv lv : Value} {s : PsR} (h : Pm w g s kv gv lv) : On w w g kv gv lv kv gv lv s (.slice none 0 0) [] :=
  ⟨h, Mv.refl _ _, fun k hk => .inl hk, evs_nil _, fun k hk => (nomatch hk), fun x hx => (nomatch hx)⟩

/-- the first cell of what was told is a number of 64 bits -/
theorem ev_first {W : World} {v : Value} {L : List (EvE × Value)} (h : EvS W v L) {x : EvE × Value} (hx : x ∈ L) {G : Nat} (hG : v.ownBlock = some G) : ∃ n, W.cell? ⟨G, 0, none⟩ = some (.int .i64 n) := by
  rcases id h.2 with ⟨e1, e2⟩ | ⟨G', cap, cur, e1, e2, e3, e4, e5, e6, e7⟩
  · rw [e1] at hG; cases hG
  · have e : G' = G := by rw [e1] at hG; simpa [Value.ownBlock] using hG
    subst e
    have hc := h.cells (g := G') hG
    obtain ⟨a, r, rfl⟩ := List.exists_cons_of_ne_nil (List.ne_nil_of_mem hx)
    obtain ⟨ae, av⟩ := a
    cases ae with
    | bgn y p => exact ⟨1, hc 0 _ rfl⟩
    | dat b p => exact ⟨2, hc 0 _ rfl⟩
    | fin p => exact ⟨3, hc 0 _ rfl⟩
    | don p => exact ⟨4, hc 0 _ rfl⟩
    | bad c q p => exact ⟨5, hc 0 _ rfl⟩
theorem src_first {W : World} {G : Nat} {b : List Int} (h : H.Src W (some ⟨G, 0, none⟩) b) (hb : b ≠ []) : ∃ n, W.cell? ⟨G, 0, none⟩ = some (.int .u8 n) := by
  obtain ⟨a, r, rfl⟩ := List.exists_cons_of_ne_nil hb
  obtain ⟨ad, e, hc⟩ := h (by simp)
  cases e
  exact ⟨a, hc 0 _ rfl⟩
theorem src_moved {W W' : World} {G : Nat} {b : List Int} (h : H.Src W (some ⟨G, 0, none⟩) b) (hb : W'.heap[G]? = W.heap[G]?) : H.Src W' (some ⟨G, 0, none⟩) b := fun hz => by
  obtain ⟨ad, e, hc⟩ := h hz
  cases e
  exact ⟨_, rfl, fun j u hj => by
    have := hc j u hj
    rw [add_at] at this ⊢
    simp only [World.cell?] at this ⊢
    rw [hb]
    exact this⟩
theorem sq_moved {W W' : World} {G : Nat} {b : List Int} (h : Sq W G b) (hb : W'.heap[G]? = W.heap[G]?) : Sq W' G b :=
  ⟨src_moved h.1 hb, fun hz => by obtain ⟨cs, ty, e⟩ := h.2 hz; exact ⟨cs, ty, hb.trans e⟩⟩

section
variable {w W W1 W2 : World} {g : Nat} {kv gv lv kv1 gv1 lv1 kv2 gv2 lv2 : Value} {s s1 : PsR} {v5 tv v6 : Value} {L L1 : List (EvE × Value)}

/-- what was told is appended to what had been -/
theorem On.app (a : On w W g kv gv lv kv1 gv1 lv1 s v5 L) (b : On W W1 g kv1 gv1 lv1 kv2 gv2 lv2 s1 tv L1)
    (o : EvS W2 v6 (L ++ L1)) (gr : W1.grownBy W2 v5.ownBlock) (at6 : v6.ownBlock = v5.ownBlock ∨ v6.ownBlock = some W1.heap.size) : On w W2 g kv gv lv kv2 gv2 lv2 s1 v6 (L ++ L1) := by
  have hsz := a.mv.size
  have hsz1 := b.mv.size
  have hsz2 := gr.size
  have v5lt : ∀ k, v5.ownBlock = some k → k < W.heap.size ∧ w.heap.size ≤ k ∧ ¬ Mine g kv1 gv1 lv1 k := fun k hk => ⟨(own_lt a.evs hk).1, (a.blk k hk).1, (a.blk k hk).2⟩
  have v5not : ∀ k, v5.ownBlock = some k → ¬ Mine g kv2 gv2 lv2 k := fun k hk hm => by
    obtain ⟨h1, h2, h3⟩ := v5lt k hk
    rcases b.mine k hm with q | q
    · exact h3 q
    · omega
  refine ⟨b.pm.moved fun k hk => gr.block k (b.pm.mine hk) (fun e => v5not k e.symm hk), ?_, ?_, o, ?_, ?_⟩
  · refine (a.mv.trans b.mv (fun x hx => a.mine x hx)).trans (O' := fun k => v5.ownBlock = some k) ⟨gr.os, gr.tape, gr.output, gr.size, fun k hk hn => gr.block k hk (fun e => hn e.symm)⟩ (fun x hx => .inr (v5lt x hx).2.1)
  · intro k hk
    rcases b.mine k hk with q | q
    · exact a.mine k q
    · right; omega
  · intro k hk
    rcases at6 with e | e
    · rw [e] at hk
      exact ⟨(v5lt k hk).2.1, v5not k hk⟩
    · rw [e] at hk
      cases hk
      exact ⟨by omega, fun hm => by have := b.pm.mine hm; omega⟩
  · intro x hx
    rcases List.mem_append.1 hx with hx | hx
    · have hd := a.dat x hx
      obtain ⟨xe, xv⟩ := x
      cases xe with
      | dat bb p =>
        obtain ⟨G, c, e1, e2, e3, e4, e5, e6, e7⟩ := hd
        have hm2 : ¬ Mine g kv2 gv2 lv2 G := fun hm => by
          rcases b.mine G hm with q | q
          · exact e7 q
          · omega
        refine ⟨G, c, e1, e2, e3, ?_, e5, by omega, hm2⟩
        by_cases hb0 : bb = []
        · subst hb0; exact ⟨fun hz => by simp at hz, fun hz => absurd rfl hz⟩
        · have hne : v5.ownBlock ≠ some G := fun hG => by
            obtain ⟨n1, c1⟩ := ev_first a.evs hx hG
            obtain ⟨n2, c2⟩ := src_first e4.1 hb0
            rw [c1] at c2
            injection c2 with c2
            injection c2 with c2
            cases c2
          exact sq_moved e4 ((gr.block G (by omega) (Ne.symm hne)).trans (b.mv.block G e6 e7))
      | bgn y p => trivial
      | fin p => trivial
      | don p => trivial
      | bad c q p => trivial
    · have hd := b.dat x hx
      obtain ⟨xe, xv⟩ := x
      cases xe with
      | dat bb p =>
        obtain ⟨G, c, e1, e2, e3, e4, e5, e6, e7⟩ := hd
        refine ⟨G, c, e1, e2, e3, ?_, by omega, by omega, e7⟩
        exact sq_moved e4 (gr.block G e6 (fun hG => by have := (v5lt G hG.symm).1; omega))
      | bgn y p => trivial
      | fin p => trivial
      | don p => trivial
      | bad c q p => trivial
end

theorem ev_cells (L : List (EvE × Value)) : (L.flatMap fun x => evCells x.1 x.2).length = L.length * 14 := by
  induction L with
  | nil => rfl
  | cons a r ih => rw [List.flatMap_cons, List.length_append, ih, evCells_len, List.length_cons]; omega
theorem chain_one (e : Int) (l : List Int) : (F.chain e l).oneCell' = true := by cases l <;> rfl
theorem ev_one {w W : World} {M : Nat → Prop} {L : List (EvE × Value)} (h : ∀ x ∈ L, DatOk w W M x) : ∀ u ∈ (L.flatMap fun x => evCells x.1 x.2), u.oneCell' = true := by
  intro u hu
  simp only [List.mem_flatMap] at hu
  obtain ⟨x, hx, hu⟩ := hu
  have hv := h x hx
  obtain ⟨xe, xv⟩ := x
  cases xe with
  | bgn y p =>
    simp only [evCells, E.En.cells, List.mem_cons, List.mem_append, List.not_mem_nil, or_false] at hu
    rcases hu with rfl | (rfl | rfl | rfl | rfl | rfl | rfl | rfl | rfl | rfl | rfl) | rfl | rfl | rfl <;> rfl
  | dat b p =>
    simp [evCells, zero10] at hu
    obtain ⟨G, c, e1, _⟩ := hv
    subst e1
    rcases hu with rfl | rfl | rfl | rfl | rfl | rfl | rfl <;> rfl
  | fin p =>
    simp [evCells, zero10] at hu
    rcases hu with rfl | rfl | rfl | rfl | rfl | rfl | rfl <;> rfl
  | don p =>
    simp [evCells, zero10] at hu
    rcases hu with rfl | rfl | rfl | rfl | rfl | rfl | rfl <;> rfl
  | bad c q p =>
    simp [evCells, zero10] at hu
    rcases hu with rfl | rfl | rfl | rfl | rfl | rfl | rfl <;> first | rfl | exact chain_one _ _
theorem infoE : (Tryz.prog.info? 44).map (fun i => (i.zero, i.size, i.bytes)) = some (some (.agg #[.int .i64 0, .string ⟨#[]⟩, .string ⟨#[]⟩, .int .i64 0, .int .i64 0, .int .i64 0, .int .i64 0, .int .i64 0, .int .i64 0, .string ⟨#[]⟩, .string ⟨#[]⟩, .slice none 0 0, .nilIface, .int .i64 0]), 14, 168) := by kernel_rfl
end Go.Proofs.YtnmmaedngdibeaaGreatDoor

namespace Go.Proofs.YtnmmaedngdibeaaGreatDoor
open Go.RowKit
set_option linter.unusedVariables false
set_option linter.unusedSimpArgs false

theorem hid {p : Prop} (h : p) : Hid p := h
section
variable {F0 : Pu.Fns E.Hd E.En Rec ByteArray}

theorem fail_len (s : PsR) (e : Int) : (Pu.fail (E := E.En) F0 s e).2.length ≤ 1 := by simp [Pu.fail]
theorem turn_len (s : PsR) : (Pu.turn F0 s).2.length ≤ 1 := by
  unfold Pu.turn Pu.endHeader Pu.endBlank Pu.beginThing Pu.beginMeta Pu.endMeta
  simp only
  (repeat' split) <;> first | exact fail_len _ _ | simp
theorem take_len (s : PsR) (b : List Int) : (Pu.take (E := E.En) s b).2.length ≤ 1 := by
  unfold Pu.take
  simp only
  (repeat' split) <;> simp

/-- turns that are made yet: where the inner loop stands -/
structure Mid (F0 : Pu.Fns E.Hd E.En Rec ByteArray) (s0 : PsR) (L0 : List EvE) (s : PsR) (L : List EvE) : Prop where
  eq : ∃ f evs, Pu.rank s ≤ f ∧ L = L0 ++ evs ∧ Pu.settle F0 3 s0 = ((Pu.settle F0 f s).1, evs ++ (Pu.settle F0 f s).2) ∧ evs.length + f ≤ 3
theorem Mid.start (s0 : PsR) (L0 : List EvE) : Mid F0 s0 L0 s0 L0 := ⟨3, [], Pu.rank_le _, by simp, by simp, by simp⟩
theorem Mid.next {s0 s : PsR} {L0 L : List EvE} (h : Mid F0 s0 L0 s L) (hl : s.lf = 0) (h4 : s.pt ≠ 4) : Mid F0 s0 L0 (Pu.turn F0 s).1 (L ++ (Pu.turn F0 s).2) ∧ Pu.rank (Pu.turn F0 s).1 < Pu.rank s := by
  obtain ⟨f, evs, e1, e2, e3, e4⟩ := h.eq
  have hr := Pu.rank_turn F0 s hl h4
  have ht := turn_len (F0 := F0) s
  cases f with
  | zero => omega
  | succ f =>
    refine ⟨⟨f, evs ++ (Pu.turn F0 s).2, by omega, by rw [e2, List.append_assoc], ?_, by rw [List.length_append]; omega⟩, hr⟩
    have es : Pu.settle F0 (f + 1) s = ((Pu.settle F0 f (Pu.turn F0 s).1).1, (Pu.turn F0 s).2 ++ (Pu.settle F0 f (Pu.turn F0 s).1).2) := by
      conv => lhs; unfold Pu.settle
      rw [if_pos ⟨hl, h4⟩]
    rw [e3, es, List.append_assoc]
theorem Mid.done {s0 s : PsR} {L0 L : List EvE} (h : Mid F0 s0 L0 s L) (hf : Pu.Fit s) : s = (Pu.settle F0 3 s0).1 ∧ L = L0 ++ (Pu.settle F0 3 s0).2 ∧ L.length ≤ L0.length + 3 := by
  obtain ⟨f, evs, e1, e2, e3, e4⟩ := h.eq
  rw [Pu.settle_of_fit F0 hf] at e3
  rw [e3]
  exact ⟨rfl, by simp [e2], by rw [e2, List.length_append]; omega⟩
theorem Mid.len {s0 s : PsR} {L0 L : List EvE} (h : Mid F0 s0 L0 s L) : L.length ≤ L0.length + 3 := by
  obtain ⟨f, evs, e1, e2, e3, e4⟩ := h.eq
  rw [e2, List.length_append]
  omega

/-- where the outer loop stands -/
structure Fd (F0 : Pu.Fns E.Hd E.En Rec ByteArray) (s0 : PsR) (zs : List Int) (s : PsR) (rem : List Int) (L : List EvE) : Prop where
  fit : Pu.Fit s
  suf : ∃ pre, zs = pre ++ rem
  eq : ∃ f, rem.length ≤ f ∧ Pu.feed F0 zs.length s0 zs = ((Pu.feed F0 f s rem).1, L ++ (Pu.feed F0 f s rem).2)
  len : L.length + 4 * rem.length ≤ 4 * zs.length
  rd : s.rd + rem.length ≤ s0.rd + zs.length
theorem Fd.start {s0 : PsR} (h : Pu.Fit s0) (zs : List Int) : Fd F0 s0 zs s0 zs [] := ⟨h, ⟨[], rfl⟩, ⟨zs.length, Nat.le_refl _, rfl⟩, by simp, by omega⟩
theorem Fd.done {s0 s : PsR} {zs rem : List Int} {L : List EvE} (h : Fd F0 s0 zs s rem L) (hd : rem = [] ∨ s.pt = 4) : Pu.feed F0 zs.length s0 zs = (s, L) := by
  obtain ⟨f, e1, e2⟩ := h.eq
  rw [e2]
  have : Pu.feed F0 f s rem = (s, []) := by
    cases f with
    | zero => rfl
    | succ f => unfold Pu.feed; rw [if_pos hd]
  rw [this]
  simp
theorem settle_rd (hF : Fall F0) : ∀ (f : Nat) (s : PsR), (Pu.settle F0 f s).1.rd = s.rd
  | 0, s => rfl
  | f + 1, s => by
    unfold Pu.settle
    split
    · simp only; rw [settle_rd hF f, turn_rd hF]
    · rfl
theorem Fd.next (hF : Fall F0) {s0 s : PsR} {zs rem : List Int} {L : List EvE} (h : Fd F0 s0 zs s rem L) (hr : rem ≠ []) (h4 : s.pt ≠ 4) {s' : PsR} {L' : List EvE} (n : Nat) (hn : n = min s.lf rem.length)
    (h1 : s' = (Pu.settle F0 3 (Pu.take (E := E.En) s (rem.take n)).1).1) (h2 : L' = (L ++ (Pu.take (E := E.En) s (rem.take n)).2) ++ (Pu.settle F0 3 (Pu.take (E := E.En) s (rem.take n)).1).2) (hl : L'.length ≤ L.length + 4) :
    Fd F0 s0 zs s' (rem.drop n) L' ∧ 0 < n ∧ (rem.drop n).length < rem.length := by
  have hlf : s.lf ≠ 0 := by rcases h.fit with q | q; exact q; exact absurd q h4
  have hrl : 0 < rem.length := List.length_pos_iff.2 hr
  have hn0 : 0 < n := by omega
  have hdl : (rem.drop n).length = rem.length - n := List.length_drop
  obtain ⟨f, e1, e2⟩ := h.eq
  have hlen := h.len
  have hrd := h.rd
  refine ⟨⟨by rw [h1]; exact Pu.settle_fit F0 3 _ (Pu.rank_le _), ?_, ?_, by omega, ?_⟩, hn0, by omega⟩
  · obtain ⟨pre, e⟩ := h.suf
    exact ⟨pre ++ rem.take n, by rw [e, List.append_assoc, List.take_append_drop]⟩
  · cases f with
    | zero => omega
    | succ f =>
      refine ⟨f, by omega, ?_⟩
      rw [e2]
      have hnot : ¬ (rem = [] ∨ s.pt = 4) := fun q => by rcases q with q | q; exact hr q; exact h4 q
      rw [h1, h2]
      conv => lhs; unfold Pu.feed
      rw [if_neg hnot]
      simp only [← hn]
      simp [List.append_assoc]
  · rw [h1, settle_rd hF, take_rd, List.length_take]
    omega

theorem low_at (B o cap c : Nat) : ∃ o2, X.lowAt B o cap c = some ⟨B, o2, none⟩ ∧ (o2 = o + c ∨ cap = c) := by
  unfold X.lowAt
  (repeat' split) <;> first | exact ⟨_, rfl, .inr (by omega)⟩ | exact ⟨_, rfl, .inl (by omega)⟩ | exact ⟨_, rfl, .inl rfl⟩

variable {w : World} {g : Nat} {s : PsR} {kv gv lv : Value}

/-- appended: what is told by a call -/
theorem app_none {W W1 : World} {v5 tv : Value} {L L1 : List (EvE × Value)} {kv1 gv1 lv1 kv2 gv2 lv2 : Value} {s1 s2 : PsR} (a : On w W g kv gv lv kv1 gv1 lv1 s1 v5 L) (b : On W W1 g kv1 gv1 lv1 kv2 gv2 lv2 s2 tv L1) (h : L1.length = 0) :
    EvS W1 v5 L ∧ On w W1 g kv gv lv kv2 gv2 lv2 s2 v5 (L ++ L1) := by
  obtain rfl : L1 = [] := List.eq_nil_of_length_eq_zero h
  have e : EvS W1 v5 L := own_moved a.evs fun k hk => b.mv.block k (own_lt a.evs hk).1 (a.blk k hk).2
  refine ⟨e, ?_⟩
  exact a.app b (by simpa using e) ⟨rfl, rfl, rfl, Nat.le_refl _, fun _ _ _ => rfl⟩ (.inl rfl)

/-- 'append(events, more...)' -/
theorem wpList_append_evs {ops : Array Oper} {rest : List Oper} {o : Oper} {a : Act} {Q : Exit → Act → World → Prop} {W : World} (hgd : o.guard = none) (x1 x2 : Operand)
    (ho : o.op = .call { callee := .builtin .append, args := #[x1, x2], argTypes := #[39, 39] }) {L L1 : List (EvE × Value)} (v : Value) (hs : a.eval x1 = v) (hv : EvS W v L) (tv : Value) (hx : a.eval x2 = tv) (ht : EvS W tv L1) {u1 u2 : World} {M : Nat → Prop} (hd : ∀ x ∈ L1, DatOk u1 u2 M x)
    (hb : L.length + L1.length ≤ 1000000)
    (h : ∀ v' W', EvS W' v' (L ++ L1) → W.grownBy W' v.ownBlock → (v'.ownBlock = v.ownBlock ∨ v'.ownBlock = some W.heap.size) → wpList Tryz.prog ops Q rest (a.put o.dst v') W') :
    wpList Tryz.prog ops Q (o :: rest) a W := by
  obtain ⟨i0, hi, hz0, hz1, hz2⟩ := info_parts infoE
  rcases id ht.2 with ⟨e1, e2⟩ | ⟨G, cap, cur, e1, e2, e3, e4, e5, e6, e7⟩
  · obtain rfl : L1 = [] := List.eq_nil_of_length_eq_zero e2
    refine wpList_append_own_none hgd x1 x2 39 ho 0 44 i0 14 Tryz.underlying39 hi _ _ _ hs hv (by rw [hx, e1]) ?_
    exact h v W (by simpa using hv) ⟨rfl, rfl, rfl, Nat.le_refl _, fun _ _ _ => rfl⟩ (.inl rfl)
  · refine wpList_append_own_at W hgd x1 x2 39 ho 0 44 i0 _ 14 168 Tryz.underlying39 hi hz0 hz1 hz2 rfl (by decide) v _ _ hs hv ⟨G, 0, none⟩ L1.length cap _ (by rw [hx, e1]) (ev_cells L1) (ht.cells (g := G) (by rw [e1]; rfl)) (ev_one hd) (by unfold maxLen; omega) (by omega) (Nat.zero_le _) ?_
    intro v' W' o2 g2 _ at2
    refine h v' W' ?_ g2 at2
    unfold EvS
    rw [List.length_append, List.flatMap_append]
    exact o2

set_option maxRecDepth 20000 in
set_option maxHeartbeats 8000000 in
theorem feed_w (hF : Fall F0) (h : Pm w g s kv gv lv) (hR : Rok s) (hfit : Pu.Fit s) (hL : Lb w) (hG : ∀ k, Mine g kv gv lv k → 14 ≤ k) (B o c : Nat) (zs : List Int) (hz : Bs w B o zs) (hzb : H.AllB zs) (hB : B < w.heap.size) (hBm : ¬ Mine g kv gv lv B) (hc : zs.length ≤ c) (hc2 : c ≤ 9223372036854775807) (hl : zs.length ≤ 100000) (hr : s.rd + zs.length ≤ 2305843009213693952) :
    Calls Tryz.prog 14 #[.pointer (some ⟨g, 0, none⟩), .slice (some ⟨B, o, none⟩) zs.length c] w fun ev w' => ∃ v L, ev = .returned v ∧ Out w w' g kv gv lv (Pu.feed F0 zs.length s zs).1 v L ∧ L.map (·.1) = (Pu.feed F0 zs.length s zs).2 := by
  obtain ⟨PP, hPP⟩ : ∃ PP : Ending → World → Prop, PP = fun ev w' => ∃ v L, ev = .returned v ∧ Out w w' g kv gv lv (Pu.feed F0 zs.length s zs).1 v L ∧ L.map (·.1) = (Pu.feed F0 zs.length s zs).2 := ⟨_, rfl⟩
  rw [← hPP]
  have HP : Hid (∀ W kv1 gv1 lv1 s1 v L rem, On w W g kv gv lv kv1 gv1 lv1 s1 v L → Fd F0 s zs s1 rem (L.map (·.1)) → (rem = [] ∨ s1.pt = 4) → PP (.returned v) W) := fun W kv1 gv1 lv1 s1 v L rem a b d => by
    rw [hPP, b.done d]
    exact ⟨v, L, rfl, a.out, rfl⟩
  have hgl := h.lt
  have H0 : Hid (On w w g kv gv lv kv gv lv s (.slice none 0 0) []) := On.start h
  have F00 : Hid (Fd F0 s zs s zs (([] : List (EvE × Value)).map (·.1))) := Fd.start hfit zs
  have HL : Hid (∀ W kv1 gv1 lv1 s1 v L, On w W g kv gv lv kv1 gv1 lv1 s1 v L → Lb W ∧ (∀ k, Mine g kv1 gv1 lv1 k → 14 ≤ k) ∧ ¬ Mine g kv1 gv1 lv1 B ∧ B < W.heap.size ∧ W.heap[B]? = w.heap[B]?) := fun W kv1 gv1 lv1 s1 v L a =>
    ⟨hL.mv a.mv hG, fun k hk => by rcases a.mine k hk with q | q; exact hG k q; have := hL.sz; omega, fun hm => by rcases a.mine B hm with q | q; exact hBm q; omega, by have := a.mv.size; omega, a.mv.block B hB hBm⟩
  have HR0 : Hid (Rok s) := hR
  have HZ0 : Hid (Bs w B o zs) := hz
  have HAB : Hid (H.AllB zs) := hzb
  have HFF : Hid (Fall F0) := hF
  have HRD : Hid (s.rd + zs.length ≤ 2305843009213693952) := hr
  have HZL : Hid (zs.length ≤ 100000) := hl
  obtain ⟨i0, hi, hz0, hz1, hz2⟩ := info_parts infoE
  clear hPP h hR hfit hL hG hz hzb hF hr
  go_enter Tryz.func14, Tryz.ntmps14
  go_wp2_with fail
  go_loopg [1, 5] zs.length (fun gk t1 t5 W => ∃ (rem : List Int) (o1 c1 : Nat) (a5 : Option Addr) (c5 : Nat) (s1 : PsR) (kv1 gv1 lv1 : Value) (L : List (EvE × Value)), rem.length ≤ gk ∧ t1 = .slice (some ⟨B, o1, none⟩) rem.length c1 ∧ rem.length ≤ c1 ∧ c1 ≤ 9223372036854775807 ∧ t5 = .slice a5 L.length c5 ∧ Hid (On w W g kv gv lv kv1 gv1 lv1 s1 (.slice a5 L.length c5) L) ∧ Hid (Rok s1) ∧ Hid (Fd F0 s zs s1 rem (L.map (·.1))) ∧ Hid (Bs w B o1 rem))
  case atStart => exact ⟨zs, o, c, none, 0, s, kv, gv, lv, [], Nat.le_refl _, rfl, hc, hc2, rfl, H0, HR0, F00, HZ0⟩
  case round =>
    obtain ⟨rem, o1, c1, a5, c5, s1, kv1, gv1, lv1, L, hgk, rfl, hrc, hrc2, rfl, hOn, hRk, hFd, hBs⟩ := hrel
    clear H0 F00 HR0 HZ0
    have yy := hOn.out.pm.cells
    have hgl1 := hOn.out.pm.lt
    by_cases hz : rem = []
    · have F := HP.out _ _ _ _ _ _ _ _ hOn.out hFd.out (.inl hz)
      subst hz
      clear HP hOn hFd hBs hRk yy
      go_wp2
      exact F
    by_cases h4 : s1.pt = 4
    · have F := HP.out _ _ _ _ _ _ _ _ hOn.out hFd.out (.inr h4)
      rw [h4] at yy
      have hz1 : (0 : Int) < (rem.length : Int) := by have := List.length_pos_iff.2 hz; omega
      clear HP hOn hFd hBs hRk hz
      go_wp2
      exact F
    have hz1 : (0 : Int) < (rem.length : Int) := by have := List.length_pos_iff.2 hz; omega
    have p4 : ¬ (s1.pt : Int) = 4 := by omega
    have p4' : ((s1.pt : Int) == 4) = false := by simp; omega
    obtain ⟨n, hn⟩ : ∃ n, n = min s1.lf rem.length := ⟨_, rfl⟩
    have hmin : (min (s1.lf : Int) (rem.length : Int)) = (n : Int) := by omega
    have HNN : Hid (n = min s1.lf rem.length) := hn
    clear hn
    go_upto_region 4 with fail
    clear hmin
    have hn := HNN.out
    have hnr : n ≤ rem.length := by omega
    have hhigh := fun W => X.run_high W (some ⟨B, o1, none⟩) rem.length c1 n (by omega)
    have htl : (rem.take n).length = n := by rw [List.length_take]; omega
    obtain ⟨hLb, hM14, hBM, hBW, hBk⟩ := HL.out _ _ _ _ _ _ _ hOn.out
    have hFl := hFd.out.len
    have hFr := hFd.out.rd
    have hZl := HZL.out
    have hRd := HRD.out
    have hAB : H.AllB (rem.take n) := fun z hz => by
      obtain ⟨pre, e⟩ := hFd.out.suf
      exact HAB.out z (by rw [e]; exact List.mem_append_right _ (List.mem_of_mem_take hz))
    have qt := take_w hOn.out.pm hRk.out h4 B o1 c1 (rem.take n) ((hBs.out.moved hBk).take n) hBW (fun e => hBM (.inl e)) (by rw [htl]; omega) (by rw [htl]; omega) (by rw [htl]; omega)
    rw [htl] at qt
    have hRk2 : Hid (Rok (Pu.take (E := E.En) s1 (rem.take n)).1) := hRk.out.take _ hAB (by rw [htl]; omega)
    have hT1 : Hid ((Pu.take (E := E.En) s1 (rem.take n)).2.length ≤ 1) := take_len _ _
    have hT2 : Hid ((Pu.take (E := E.En) s1 (rem.take n)).1.rd = s1.rd + n) := by show _ = _; rw [take_rd, htl]
    generalize hsT : (Pu.take (E := E.En) s1 (rem.take n)) = sT at *
    have HST : Hid _ := hsT
    have HN2 : Hid (n ≤ rem.length) := hnr
    clear hLb hM14 hBM hBW hBk hAB htl hsT hn yy
    have hlenL : L.length + 4 ≤ 800000 := by simp at hFl; have := List.length_pos_iff.2 hz; omega
    go_wp2_with (first
      | (go_at_call 24; refine qt.mono ?_; rintro e w2 ⟨tv, L1, rfl, hO1, hm1⟩; obtain ⟨kv2, gv2, lv2, hO2⟩ := hO1.on; have hL1 : L1.length ≤ 1 := by { have := hT1.out; rw [← hm1, List.length_map] at this; exact this }; obtain ⟨ta, tc, rfl, _, _, _⟩ := own_sl hO2.evs; have hE5 := own_moved hOn.out.evs (fun k hk => hO2.mv.block k (own_lt hOn.out.evs hk).1 (hOn.out.blk k hk).2))
      | (at_builtin; refine wpList_append_evs rfl _ _ rfl _ rfl hE5 _ rfl hO2.evs hO2.dat (by omega) ?_; intro v6 w6 o6 g6 at6; have hA := hOn.out.app hO2 o6 g6 at6; obtain ⟨a6, c6, rfl, _, _, _⟩ := own_sl o6))
    have HA : Hid (On w w6 g kv gv lv kv2 gv2 lv2 sT.1 (.slice a6 (L ++ L1).length c6) (L ++ L1)) := hA
    have HM1 : Hid (L1.map (·.1) = sT.2) := hm1
    have HL1 : Hid (L1.length ≤ 1) := hL1
    clear hA hO1 hO2 hm1 hE5 o6 g6 at6 qt hhigh
    go_loopg [5] 3 (fun gk2 t5 W => ∃ (a7 : Option Addr) (c7 : Nat) (s2 : PsR) (kv3 gv3 lv3 : Value) (L2 : List (EvE × Value)), t5 = .slice a7 L2.length c7 ∧ Hid (On w W g kv gv lv kv3 gv3 lv3 s2 (.slice a7 L2.length c7) L2) ∧ Hid (Rok s2) ∧ Hid (Mid F0 sT.1 ((L ++ L1).map (·.1)) s2 (L2.map (·.1))) ∧ Hid (s2.rd = s1.rd + n) ∧ Hid (Pu.rank s2 ≤ gk2))
    case atStart => exact ⟨a6, c6, sT.1, kv2, gv2, lv2, L ++ L1, by simp, HA, hRk2, Mid.start _ _, hT2, Pu.rank_le _⟩
    case round =>
      obtain ⟨a7, c7, s2, kv3, gv3, lv3, L2, rfl, hO3, hR3, hMd, hrd3, hrk⟩ := hrel
      clear HA hRk2
      have yy := hO3.out.pm.cells
      have hgl2 := hO3.out.pm.lt
      by_cases hf : s2.lf = 0 ∧ s2.pt ≠ 4
      · obtain ⟨hLb, hM14, hBM, hBW, hBk⟩ := HL.out _ _ _ _ _ _ _ hO3.out
        have hrd := hrd3.out
        have q := turn_w HFF.out hO3.out.pm hR3.out hf.1 hf.2 (by omega) hLb (hM14 g (.inl rfl))
        have hR4 : Hid (Rok (Pu.turn F0 s2).1) := hR3.out.turn HFF.out hf.1
        obtain ⟨hMn, hMk⟩ := hMd.out.next hf.1 hf.2
        have hMn' : Hid (Mid F0 sT.1 ((L ++ L1).map (·.1)) (Pu.turn F0 s2).1 (L2.map (·.1) ++ (Pu.turn F0 s2).2)) := hMn
        have hMk' : Hid (Pu.rank (Pu.turn F0 s2).1 < Pu.rank s2) := hMk
        clear hMk
        have hrd4 : Hid ((Pu.turn F0 s2).1.rd = s1.rd + n) := by show _ = _; rw [turn_rd HFF.out]; exact hrd
        have hT3 : Hid ((Pu.turn F0 s2).2.length ≤ 1) := turn_len _
        have hLen := hMd.out.len
        rw [List.length_map, List.length_map, List.length_append] at hLen
        have hL1' := HL1.out
        rw [hf.1] at yy
        have p4 : ¬ (s2.pt : Int) = 4 := by have := hf.2; omega
        have p4' : ((s2.pt : Int) == 4) = false := by have := hf.2; simp; omega
        generalize Pu.turn F0 s2 = sU at *
        clear hMn hLb hM14 hBM hBW hBk hMd hf hrd
        go_wp2_with (first
          | (go_at_call 25; refine q.mono ?_; rintro e w8 ⟨tv, L3, rfl, hO4, hm3⟩; obtain ⟨kv4, gv4, lv4, hO5⟩ := hO4.on; have hL3 : L3.length ≤ 1 := by { have := hT3.out; rw [← hm3, List.length_map] at this; exact this }; obtain ⟨ta, tc, rfl, _, _, _⟩ := own_sl hO5.evs; have hE7 := own_moved hO3.out.evs (fun k hk => hO5.mv.block k (own_lt hO3.out.evs hk).1 (hO3.out.blk k hk).2))
          | (at_builtin; refine wpList_append_evs rfl _ _ rfl _ rfl hE7 _ rfl hO5.evs hO5.dat (by omega) ?_; intro v9 w9 o9 g9 at9; have hA := hO3.out.app hO5 o9 g9 at9; obtain ⟨a9, c9, rfl, _, _, _⟩ := own_sl o9))
        have e9 : (L2 ++ L3).map (·.1) = L2.map (·.1) ++ sU.2 := by rw [List.map_append, hm3]
        have hMf : Hid (Mid F0 sT.1 ((L ++ L1).map (·.1)) sU.1 ((L2 ++ L3).map (·.1))) := by
          show Mid F0 sT.1 ((L ++ L1).map (·.1)) sU.1 ((L2 ++ L3).map (·.1))
          rw [e9]
          exact hMn'.out
        go_roundg (Pu.rank sU.1)
        case rel => exact ⟨a9, c9, sU.1, kv4, gv4, lv4, L2 ++ L3, by simp, hA, hR4, hMf, hrd4, Nat.le_refl _⟩
        case measure => have := hrk.out; have := hMk'.out; omega
      · have hfit : Pu.Fit s2 := by
          unfold Pu.Fit
          by_cases q : s2.lf = 0
          · right
            exact Classical.byContradiction fun q2 => hf ⟨q, q2⟩
          · exact .inl q
        obtain ⟨m1, m2, m3⟩ := hMd.out.done hfit
        have hL1' := HL1.out
        have e5 : (L2.map (·.1)) = (L.map (·.1) ++ (Pu.take (E := E.En) s1 (rem.take n)).2) ++ (Pu.settle F0 3 (Pu.take (E := E.En) s1 (rem.take n)).1).2 := by
          rw [HST.out, m2, List.map_append, HM1.out]
        obtain ⟨hFn, hn0, hdl⟩ := hFd.out.next (s' := s2) HFF.out hz h4 n HNN.out (by rw [HST.out]; exact m1) e5 (by rw [List.length_map] at m3 ⊢; rw [List.length_map, List.length_append] at m3; rw [List.length_map]; omega)
        obtain ⟨o2, hlow, hbs⟩ : ∃ o2, (∀ W, (Instr.sliceAt 22 (.slice (some ⟨B, o1, none⟩) rem.length c1) (some (.int .i64 (n : Int))) none none).run Tryz.prog W = .ok (.slice (some ⟨B, o2, none⟩) (rem.length - n) (c1 - n)) W) ∧ Hid (Bs w B o2 (rem.drop n)) := by
          obtain ⟨o2, ho, hor⟩ := low_at B o1 c1 n
          refine ⟨o2, fun W => by rw [X.run_low W B o1 rem.length c1 n HN2.out, ho], ?_⟩
          rcases hor with e | e
          · rw [e]; exact hBs.out.drop n
          · have : rem.drop n = [] := List.drop_eq_nil_of_le (by omega)
            rw [this]
            intro j u hj
            simp [H.cellsOf] at hj
        have hFn' : Hid _ := hFn
        have hdl' : (rem.drop n).length = rem.length - n := List.length_drop
        have HDL : Hid ((rem.drop n).length < rem.length) := hdl
        have HDE : Hid ((rem.drop n).length = rem.length - n) := hdl'
        have HN0 : Hid (0 < n) := hn0
        have hcc : rem.length - n ≤ c1 - n := by omega
        have hcase : (s2.lf = 0 ∧ s2.pt = 4) ∨ ¬ (s2.lf : Int) = 0 := by
          rcases hfit with q | q
          · right; omega
          · by_cases q2 : s2.lf = 0
            · exact .inl ⟨q2, q⟩
            · right; omega
        clear hFn hdl hdl' hn0 m1 m2 m3 e5 hfit hf hMd hrd3 hFd hBs
        rcases hcase with ⟨q1, q2⟩ | q1
        · rw [q1, q2] at yy
          go_wp2_with fail
          go_roundg (rem.drop n).length
          case rel => exact ⟨rem.drop n, o2, c1 - n, a7, c7, s2, kv3, gv3, lv3, L2, Nat.le_refl _, by rw [HDE.out], by rw [HDE.out]; exact hcc, by omega, rfl, hO3, hR3, hFn', hbs⟩
          case measure => have := HDL.out; omega
        · go_wp2_with fail
          go_roundg (rem.drop n).length
          case rel => exact ⟨rem.drop n, o2, c1 - n, a7, c7, s2, kv3, gv3, lv3, L2, Nat.le_refl _, by rw [HDE.out], by rw [HDE.out]; exact hcc, by omega, rfl, hO3, hR3, hFn', hbs⟩
          case measure => have := HDL.out; omega
end
end Go.Proofs.YtnmmaedngdibeaaGreatDoor

namespace Go.Proofs.YtnmmaedngdibeaaGreatDoor
open Go.RowKit
set_option linter.unusedVariables false
set_option linter.unusedSimpArgs false

/-- what other layers answer -/
def fns0 : Pu.Fns E.Hd E.En Rec ByteArray := { blank := H.blankB, decode := decH, typ := E.Hd.typ, size := E.Hd.size, cls := clsP, make := makeP, esize := fun e => e.size.toNat, text := textP, recs := recsP, none := ⟨#[]⟩ }
theorem fall0 : Fall fns0 := { none := rfl, text := rfl, recs := rfl, blank := rfl, dec := rfl, typ := rfl, size := rfl, cls := rfl, make := rfl, esize := rfl }

/-- is the archive whole? -/
def endV (s : PsR) : Value := if s.pt = 4 then errV s.er else F.chain 5 [(s.rd : Int)]

section
variable {w : World} {g : Nat} {s : PsR} {kv gv lv : Value}

theorem at_w (h : Pm w g s kv gv lv) : Calls Tryz.prog 16 #[.pointer (some ⟨g, 0, none⟩)] w fun e w' => e = .returned (.int .i64 (s.rd : Int)) ∧ w' = w := by
  have hgl := h.lt
  have c0 := h.cells
  clear h
  go_enter Tryz.func16, Tryz.ntmps16
  go_wp2
  go_ret
  exact ⟨rfl, rfl⟩

theorem end_w (h : Pm w g s kv gv lv) : Calls Tryz.prog 17 #[.pointer (some ⟨g, 0, none⟩)] w fun e w' => e = .returned (endV s) ∧ w' = w := by
  have hgl := h.lt
  have c0 := h.cells
  have q := F.new_any 5 (s.rd : Int) w rfl
  unfold endV
  clear h
  by_cases c : s.pt = 4
  · rw [if_pos c]
    rw [c] at c0
    have hsh : errV s.er = .nilIface ∨ ∃ t x, errV s.er = .iface t x := by
      cases s.er with
      | none => exact .inl rfl
      | some p => exact .inr (F.chain_form p.1 [p.2])
    generalize errV s.er = ev at *
    rcases hsh with rfl | ⟨t, x, rfl⟩
    all_goals
      go_enter Tryz.func17, Tryz.ntmps17
      go_wp2
      go_ret
      exact ⟨rfl, rfl⟩
  · rw [if_neg c]
    have c1 : ¬ (s.pt : Int) = 4 := by omega
    go_enter Tryz.func17, Tryz.ntmps17
    go_wp2_with (go_at_call 26; refine q.mono ?_; rintro e w1 ⟨rfl, rfl⟩)
    go_ret
    exact ⟨rfl, rfl⟩

theorem new_w (w : World) : Calls Tryz.prog 13 #[] w fun e w' => e = .returned (.pointer (some ⟨w.heap.size, 0, none⟩)) ∧ Pm w' w.heap.size (Pu.new fns0) (.slice none 0 0) (.slice none 0 0) (.slice none 0 0) ∧ Below w.heap.size w w' ∧ w'.heap.size = w.heap.size + 1 := by
  have hz := zeroP
  have HN : Hid (Pm (w.alloc (.cells #[.int .i64 0, .int .i64 0, .int .i64 512, .slice none 0 0, .int .i64 0, .int .i64 0, .bool false, .slice none 0 0, .slice none 0 0, .string ⟨#[]⟩, .string ⟨#[]⟩, .nilIface] 72)) w.heap.size (Pu.new fns0) (.slice none 0 0) (.slice none 0 0) (.slice none 0 0) ∧ Below w.heap.size w (w.alloc (.cells #[.int .i64 0, .int .i64 0, .int .i64 512, .slice none 0 0, .int .i64 0, .int .i64 0, .bool false, .slice none 0 0, .slice none 0 0, .string ⟨#[]⟩, .string ⟨#[]⟩, .nilIface] 72))) :=
    ⟨⟨heap_alloc_new w _, World.ownsRow_nil _ _ _ _, World.ownsRow_nil _ _ _ _, World.ownsRow_nil _ _ _ _, fun k hk => (nomatch hk)⟩, (Below.refl _ w).alloc (Nat.le_refl _) _⟩
  go_enter Tryz.func13, Tryz.ntmps13
  go_wp2
  go_ret
  exact ⟨rfl, HN.out.1, HN.out.2, by simp⟩
end
end Go.Proofs.YtnmmaedngdibeaaGreatDoor

namespace Go.Proofs.YtnmmaedngdibeaaGreatDoor
open Go.RowKit
open Go.Lib hiding intOf
set_option linter.unusedVariables false
set_option linter.unusedSimpArgs false

/-- so many bytes that are noughts -/
def zc (k : Nat) : List Value := List.replicate k (.int .u8 0)
theorem zc_len (k : Nat) : (zc k).length = k := by simp [zc]
theorem zc_one (k : Nat) : ∀ u ∈ zc k, u.oneCell' = true := fun u hu => by
  rw [List.eq_of_mem_replicate hu]; rfl
theorem zeroCells_eq (k : Nat) : Builtin.zeroCells (Value.int IntKind.u8 0).cells k = (zc k).toArray := by
  have h1 : (Value.int IntKind.u8 0).cells = #[.int .u8 0] := rfl
  rw [h1]
  apply Array.ext'
  unfold Builtin.zeroCells zc
  simp only [List.size_toArray, List.length_cons, List.length_nil, Nat.zero_add, Nat.mul_one, Nat.mod_one, Array.toList_map, Array.toList_range]
  apply List.ext_getElem
  · simp
  · intro i h1 h2
    simp
theorem cells_zc (k : Nat) : zc k = H.cellsOf (List.replicate k 0) := by simp [zc, H.cellsOf]

section
variable {P : Program} (w : World)

theorem run_append_room_zeros (t u ty e : TypeId) (kq kn : IntKind) (i : TypeInfo) (ht : P.underlying t = some (.slice e)) (hu : P.underlying u = some (.int kn)) (hi : P.info? e = some i) (hz : i.zero = some (.int .u8 0)) (hs1 : i.size = 1) (hby : i.bytes = 1)
    (g sLen sCap : Nat) (cur : Array Value) (hg : w.heap[g]? = some (.cells cur e (0, 0))) (k : Nat) (hk : k ≤ 140737488355328)
    (hroom : sLen + k ≤ sCap) (hfit : sLen + k ≤ cur.size) :
    (Builtin.append_ #[t, u] ty #[.slice (some ⟨g, 0, none⟩) sLen sCap, .int kq k]).run P w =
      .ok (.slice (some ⟨g, 0, none⟩) (sLen + k) sCap) (w.setRow g (cur.toList.take sLen ++ zc k ++ cur.toList.drop (sLen + k)).toArray) := by
  have hst := run_storeCells_at P g sLen e (zc k) 0 cur w hg (by simpa [zc_len] using hfit) (zc_one k)
  simp only [Nat.add_zero, zc_len] at hst
  have hw : IntKind.i64.wrap (k : Int) = k := by rw [IntKind.wrap_i64]; omega
  have hneg : ¬ ((k : Int) < 0) := by omega
  have h48 : ¬ (281474976710656 < (k : Int)) := by omega
  by_cases h0 : k = 0
  · subst h0
    have hst0 : (storeCells ⟨g, sLen, none⟩ ([] : List Value) 0).run P w = .ok () (w.setRow g (cur.toList.take sLen ++ zc 0 ++ cur.toList.drop (sLen + 0)).toArray) := hst
    simp only [Nat.add_zero] at hst0
    have hw0 : IntKind.i64.wrap 0 = 0 := by rw [IntKind.wrap_i64]; omega
    have hr0 : sLen ≤ sCap := by omega
    simp [Builtin.append_, run_underlying ht, run_underlying hu, sizeOf, typeInfo, zeroValue, hi, hz, hs1, hby, asInt, asIntOf, hw0, hr0, Addr.add_lit, hst0]
  · have hz2 := zeroCells_eq k
    have hstz : (storeCells ⟨g, sLen, none⟩ (Builtin.zeroCells (Value.int IntKind.u8 0).cells k).toList 0).run P w = .ok () (w.setRow g (cur.toList.take sLen ++ zc k ++ cur.toList.drop (sLen + k)).toArray) := by
      rw [hz2]
      exact hst
    simp [Builtin.append_, run_underlying ht, run_underlying hu, sizeOf, typeInfo, zeroValue, hi, hz, hs1, hby, asInt, asIntOf, hw, hneg, h48, h0, hroom, Addr.add_lit, hstz]

/-- onto a row of one's own -/
theorem run_append_own_zeros (base : Nat) (t u ty e : TypeId) (kq kn : IntKind) (i : TypeInfo) (ht : P.underlying t = some (.slice e)) (hu : P.underlying u = some (.int kn)) (hi : P.info? e = some i) (hz : i.zero = some (.int .u8 0)) (hs1 : i.size = 1) (hby : i.bytes = 1)
    (v : Value) (n : Nat) (xs : List Value) (hown : w.ownsRow base e 1 v n xs) (hv : v ≠ .slice none 0 0) (k : Nat) (hk : n + k ≤ 140737488355328) (hbase : base ≤ w.heap.size) :
    ∃ v' w', (Builtin.append_ #[t, u] ty #[v, .int kq k]).run P w = .ok v' w' ∧ w'.ownsRow base e 1 v' (n + k) (xs ++ zc k) ∧ w.grownBy w' v.ownBlock ∧ (v'.ownBlock = v.ownBlock ∨ v'.ownBlock = some w.heap.size) := by
  have hxl : xs.length = n := by simpa using hown.1
  have hlen : (xs ++ zc k).length = (n + k) * 1 := by rw [List.length_append, hxl, zc_len, Nat.mul_one]
  rcases hown.2 with ⟨e1, _⟩ | ⟨g, cap, cur, rfl, hbg, hg, hnc, hcm, hcs, htake⟩
  · exact absurd e1 hv
  · have hcs' : cur.size = cap := by simpa using hcs
    by_cases hroom : n + k ≤ cap
    · have hr := run_append_room_zeros (P := P) w t u ty e kq kn i ht hu hi hz hs1 hby g n cap cur hg k (by omega) hroom (by omega)
      refine ⟨_, _, hr, ⟨hlen, .inr ⟨g, cap, _, rfl, hbg, setRow_heap w g cur _ e _ hg, hroom, hcm, ?_, ?_⟩⟩, ⟨rfl, rfl, rfl, by simp, fun k _ hk => setRow_other w g k _ (fun e => hk (by simp [Value.ownBlock, e]))⟩, .inl rfl⟩
      · simp only [List.size_toArray, List.length_append, List.length_take, List.length_drop, Array.length_toList, zc_len]
        omega
      · have ht' : cur.toList.take n = xs := by simpa using htake
        rw [ht', ← hlen]
        exact List.take_left
    · have hold : (Builtin.firstCells i.size n (.slice (some ⟨g, 0, none⟩) n cap)).run P w.drew = .ok xs.toArray w.drew := by
        have hcells : ∀ j u, xs[j]? = some u → w.drew.cell? ((⟨g, 0, none⟩ : Addr).add j) = some u := hown.cells (g := g) rfl
        have := run_loadCells_list (P := P) (w := w.drew) ⟨g, 0, none⟩ xs hcells
        simp [Builtin.firstCells, hs1, ← hxl, this]
      have hr := run_append_grow_zeros (P := P) w t u ty e i (.int .u8 0) kq kn ht hu hi hz (some ⟨g, 0, none⟩) n cap xs hold k (by omega) (by omega) (by omega) (by omega) (by rw [hby]; omega) (by rw [hby]; exact growslice_fits (by omega) (by omega))
      have hge := grownCap_ge w (n + k) cap e
      have hcm2 : grownCap w (n + k) cap e ≤ maxLen := grownCap_le_maxLen w (n + k) cap e (by unfold maxLen; omega)
      rw [zeroCells_eq] at hr
      refine ⟨_, _, hr, ⟨hlen, .inr ⟨w.heap.size, _, _, rfl, hbase, heap_alloc_new w.drew _, hge, hcm2, ?_, ?_⟩⟩, ⟨rfl, rfl, rfl, by simp, fun k hk _ => (by first | exact heap_alloc_old w.drew _ k hk | exact heap_alloc_old w.drew _ hk)⟩, .inr rfl⟩
      · have hz1 : (Value.int IntKind.u8 0).cells.size = 1 := rfl
        simp only [Array.size_append, List.size_toArray, size_zeroCells, hz1, hxl, zc_len]
        omega
      · simp only [Array.toList_append, List.append_assoc]
        rw [← List.append_assoc, ← hlen]
        exact List.take_left

theorem wpList_append_own_zeros {ops : Array Oper} {rest : List Oper} {o : Oper} {a : Act} {Q : Exit → Act → World → Prop} (hgd : o.guard = none) (sl x : Operand) (t u : TypeId)
    (ho : o.op = .call { callee := .builtin .append, args := #[sl, x], argTypes := #[t, u] })
    (base : Nat) (e : TypeId) (kq kn : IntKind) (i : TypeInfo) (ht : P.underlying t = some (.slice e)) (hu : P.underlying u = some (.int kn)) (hi : P.info? e = some i) (hz : i.zero = some (.int .u8 0)) (hs1 : i.size = 1) (hby : i.bytes = 1)
    (v : Value) (n : Nat) (xs : List Value) (hs : a.eval sl = v) (hown : w.ownsRow base e 1 v n xs) (hv : v ≠ .slice none 0 0) (k : Nat) (hx : a.eval x = .int kq k) (hk : n + k ≤ 140737488355328) (hbase : base ≤ w.heap.size)
    (h : ∀ v' w', w'.ownsRow base e 1 v' (n + k) (xs ++ zc k) → w.grownBy w' v.ownBlock → (v'.ownBlock = v.ownBlock ∨ v'.ownBlock = some w.heap.size) → wpList P ops Q rest (a.put o.dst v') w') : wpList P ops Q (o :: rest) a w := by
  refine wpList_plain hgd fun K hK => ?_
  obtain ⟨v', w', hr, h2, h3, h4⟩ := run_append_own_zeros (P := P) w base t u o.type e kq kn i ht hu hi hz hs1 hby v n xs hown hv k hk hbase
  unfold Oper.wp execOp
  simp only [ho, resolve, invoke, builtin, Sem.run_bind, Sem.run_pure, Result.andThen_ok, List.map_toArray, List.map_cons, List.map_nil, hs, hx, hr]
  exact hK _ _ (h v' w' h2 h3 h4)
end
end Go.Proofs.YtnmmaedngdibeaaGreatDoor

namespace Go.Proofs.YtnmmaedngdibeaaGreatDoor
open Go.RowKit
set_option linter.unusedVariables false
set_option linter.unusedSimpArgs false

/-- the header of the laws' head -/
def hdA : List Int := H.sealL (H.encL ⟨#[97]⟩ ⟨#[]⟩ ⟨#[]⟩ ⟨#[]⟩ ⟨#[]⟩ 48 (H.numsF 420 0 0 2 0))
/-- the archive of the laws' head -/
def zsA : List Int := hdA ++ [104, 105] ++ List.replicate 1534 0
set_option maxRecDepth 100000 in
theorem hdA_len : hdA.length = 512 := by decide +kernel
theorem zsA_len : zsA.length = 2048 := by
  unfold zsA
  rw [List.length_append, List.length_append, hdA_len, List.length_replicate]
  rfl
set_option maxRecDepth 100000 in
theorem zsA_allB : H.AllB zsA := by
  have : zsA.all (fun z => decide (0 ≤ z ∧ z ≤ 255)) = true := by decide +kernel
  intro z hz
  have := (List.all_eq_true.1 this) z hz
  simpa using this
theorem textsA : H.textsB ⟨#[97]⟩ ⟨#[]⟩ ⟨#[]⟩ ⟨#[]⟩ ⟨#[]⟩ = true := by decide +kernel
theorem numsA : ∀ k, k < 5 → H.numFit (H.numsF 420 0 0 2 0) k = true := by decide +kernel

/-- an event, so that it can be held against another one -/
def evTag : EvE → Nat × List Int × List UInt8 × Nat
  | .bgn e p => (1, [], e.path.data.toList, p)
  | .dat b p => (2, b, [], p)
  | .fin p => (3, [], [], p)
  | .don p => (4, [], [], p)
  | .bad _ _ p => (5, [], [], p)
set_option maxRecDepth 100000 in
theorem fedA : (Pu.feed fns0 2048 (Pu.new fns0) zsA).2.map evTag = [(1, [], [97], 512), (2, [104, 105], [], 514), (3, [], [], 514), (4, [], [], 2048)] := by decide +kernel
set_option maxRecDepth 100000 in
theorem fedA_pt : (Pu.feed fns0 2048 (Pu.new fns0) zsA).1.pt = 4 := by decide +kernel
set_option maxRecDepth 100000 in
theorem fedA_er : (Pu.feed fns0 2048 (Pu.new fns0) zsA).1.er = none := by
  have : (Pu.feed fns0 2048 (Pu.new fns0) zsA).1.er.isNone = true := by decide +kernel
  simpa using this

theorem tagA {l : List EvE} (h : l.map evTag = [(1, [], [97], 512), (2, [104, 105], [], 514), (3, [], [], 514), (4, [], [], 2048)]) : ∃ x : E.En, x.path = ⟨#[97]⟩ ∧ l = [.bgn x 512, .dat [104, 105] 514, .fin 514, .don 2048] := by
  match l, h with
  | [a, b, c, d], h =>
    simp only [List.map_cons, List.map_nil, List.cons.injEq, and_true] at h
    obtain ⟨h1, h2, h3, h4⟩ := h
    cases a with
    | bgn x p =>
      cases b with
      | dat y q =>
        cases c with
        | fin r =>
          cases d with
          | don t =>
            simp only [evTag, Prod.mk.injEq] at h1 h2 h3 h4
            refine ⟨x, ?_, ?_⟩
            · apply ByteArray.ext
              have := h1.2.2.1
              exact Array.ext' (by simpa using this)
            · rw [h1.2.2.2, h2.2.1, h2.2.2.2, h3.2.2.2, h4.2.2.2]
          | _ => simp [evTag] at h4
        | _ => simp [evTag] at h3
      | _ => simp [evTag] at h2
    | _ => simp [evTag] at h1
  | [], h => simp at h
  | [_], h => simp at h
  | [_, _], h => simp at h
  | [_, _, _], h => simp at h
  | _ :: _ :: _ :: _ :: _ :: _, h => simp at h
end Go.Proofs.YtnmmaedngdibeaaGreatDoor

namespace Go.Proofs.YtnmmaedngdibeaaGreatDoor
open Go.RowKit
open Go.Lib hiding intOf
set_option linter.unusedVariables false
set_option linter.unusedSimpArgs false

/-- what was written into a new row is one's own -/
theorem grown_own (w : World) (base n C : Nat) (xs ys : List Value) (hn : n = xs.length + ys.length) (hC : n ≤ C) (hM : C ≤ maxLen) (hb : base ≤ w.heap.size) (z : Array Value) (hz : z.size = C - n) :
    (w.drew.alloc (.cells (xs.toArray ++ ys.toArray ++ z) 5)).ownsRow base 5 1 (.slice (some ⟨w.heap.size, 0, none⟩) n C) n (xs ++ ys) := by
  have hlen : (xs ++ ys).length = n * 1 := by rw [List.length_append]; omega
  refine ⟨hlen, .inr ⟨w.heap.size, C, _, rfl, hb, heap_alloc_new w.drew _, hC, hM, ?_, ?_⟩⟩
  · simp only [Array.size_append, List.size_toArray, hz]
    omega
  · simp only [Array.toList_append, List.append_assoc]
    rw [← List.append_assoc, ← hlen]
    exact List.take_left

theorem zeroHdr (W : World) : (zeroValue 55).run Tryz.prog W = .ok (.agg (H.hcells 0 ⟨#[]⟩ ⟨#[]⟩ ⟨#[]⟩ ⟨#[]⟩ ⟨#[]⟩ 0 0 0 0 0 0)) W := by
  have b : (Tryz.prog.info? 55).bind (fun i => i.zero) = some (.agg (H.hcells 0 ⟨#[]⟩ ⟨#[]⟩ ⟨#[]⟩ ⟨#[]⟩ ⟨#[]⟩ 0 0 0 0 0 0)) := by kernel_rfl
  cases hq : Tryz.prog.info? 55 with
  | none => rw [hq] at b; simp at b
  | some i => rw [hq] at b; simp at b; simp [zeroValue, typeInfo, hq, b]

/-- Encode of a header that fits -/
theorem enc_fits (n : ByteArray) (ty a d : Int) (w : World) (hf : H.textsB n ⟨#[]⟩ ⟨#[]⟩ ⟨#[]⟩ ⟨#[]⟩ = true) (hn : ∀ k, k < 5 → H.numFit (H.numsF a 0 0 d 0) k = true) (L : H.Laid w) (hty : 0 ≤ ty ∧ ty ≤ 255) (ha : 0 ≤ a ∧ a ≤ 9223372036854775807) (hd : 0 ≤ d ∧ d ≤ 9223372036854775807) :
    Calls Tryz.prog 20 #[.agg #[.int .i64 0, .string n, .string ⟨#[]⟩, .string ⟨#[]⟩, .string ⟨#[]⟩, .string ⟨#[]⟩, .int .u8 ty, .int .i64 a, .int .i64 0, .int .i64 0, .int .i64 d, .int .i64 0]] w fun e w' =>
      ∃ g, e = .returned (.tuple #[.slice (some ⟨g, 0, none⟩) 512 512, .int .i64 0]) ∧ H.Own w w' g (H.sealL (H.encL n ⟨#[]⟩ ⟨#[]⟩ ⟨#[]⟩ ⟨#[]⟩ ty (H.numsF a 0 0 d 0))) := by
  refine (H.enc_yes 0 n ⟨#[]⟩ ⟨#[]⟩ ⟨#[]⟩ ⟨#[]⟩ ty a 0 0 d 0 w hf L hty (by omega) (by omega) (by omega) (by omega) (by omega)).mono ?_
  rintro e w' (⟨_, ⟨k, hk, h⟩, _⟩ | ⟨g, rfl, _, o⟩)
  · rw [hn k hk] at h; cases h
  · exact ⟨g, rfl, o⟩

set_option maxRecDepth 20000 in
set_option maxHeartbeats 8000000 in
theorem reads_w (w : World) (hL : Lb w) : Calls Tryz.prog 10 #[] w fun e w' => e = .returned (.bool true) ∧ Below w.heap.size w w' := by
  have qe := enc_fits ⟨#[97]⟩ 48 420 2 w textsA numsA hL.laid (by omega) (by omega) (by omega)
  have hzz := zeroHdr
  unfold H.hcells at hzz
  change Calls _ _ _ _ fun e w' => ∃ g, e = .returned (.tuple #[.slice (some ⟨g, 0, none⟩) 512 512, .int .i64 0]) ∧ H.Own w w' g hdA at qe
  have HLb : Hid (Lb w) := hL
  clear hL
  obtain ⟨i0, hi, hz0, hz1, hz2⟩ := info_parts infoB
  go_enter Tryz.func10, Tryz.ntmps10
  go_upto_region 4 with (go_at_call 20; refine qe.mono ?_; rintro e w1 ⟨g, rfl, o1⟩)
  have hs1 := o1.below.size
  have hcs : ∀ j v, (H.cellsOf hdA)[j]? = some v → w1.cell? ((⟨g, 0, none⟩ : Addr).add j) = some v := by
    obtain ⟨ad, e, h⟩ := o1.src (by rw [hdA_len]; omega)
    cases e
    exact h
  have hr1 := run_append_grow_string (P := Tryz.prog) w1 22 9 22 5 i0 (.int .u8 0) Tryz.underlying22 Tryz.underlying9 hi hz0 ⟨g, 0, none⟩ 512 512 (H.cellsOf hdA) (by rw [hz1, cellsOf_len, hdA_len]) hcs ⟨#[104, 105]⟩ (by show 512 < 512 + 2; omega) (by show ((512 + 2 : Nat) : Int) ≤ _; omega) (by rw [hz2]; exact growslice_fits (by show 512 < 512 + 2; omega) (by show 512 + 2 ≤ _; omega))
  have hsz2 : (⟨#[104, 105]⟩ : ByteArray).size = 2 := rfl
  rw [hsz2] at hr1
  have hge := grownCap_ge w1 (512 + 2) 512 5
  have hle := grownCap_le_maxLen w1 (512 + 2) 512 5 (by unfold maxLen; omega)
  have hown := grown_own w1 w.heap.size (512 + 2) (grownCap w1 (512 + 2) 512 5) (H.cellsOf hdA) (strCells ⟨#[104, 105]⟩) (by rw [cellsOf_len, hdA_len]; rfl) hge hle hs1 (Builtin.zeroCells (Value.int .u8 0).cells (grownCap w1 (512 + 2) 512 5 - (512 + 2))) (by rw [size_zeroCells]; show _ * 1 = _; omega)
  have hb12 : Below w1.heap.size w1 (w1.drew.alloc (.cells ((H.cellsOf hdA).toArray ++ (strCells ⟨#[104, 105]⟩).toArray ++ Builtin.zeroCells (Value.int .u8 0).cells (grownCap w1 (512 + 2) 512 5 - (512 + 2))) 5)) := (Below.refl _ w1).drew.alloc (Nat.le_refl _) _
  have hs12 : (w1.drew.alloc (.cells ((H.cellsOf hdA).toArray ++ (strCells ⟨#[104, 105]⟩).toArray ++ Builtin.zeroCells (Value.int .u8 0).cells (grownCap w1 (512 + 2) 512 5 - (512 + 2))) 5)).heap.size = w1.heap.size + 1 := by simp
  have hc2 : strCells ⟨#[104, 105]⟩ = H.cellsOf [104, 105] := rfl
  rw [hc2, cellsOf_app] at hown
  rw [← hc2] at hown
  generalize w1.drew.alloc _ = w2 at *
  generalize grownCap w1 (512 + 2) 512 5 = C2 at *
  have hb02 := o1.below.trans (hb12.mono hs1)
  have HO2 : Hid (w2.ownsRow w.heap.size 5 1 (.slice (some ⟨w1.heap.size, 0, none⟩) 514 C2) 514 (H.cellsOf (hdA ++ [104, 105]))) := hown
  have HB2 : Hid (Below w.heap.size w w2) := hb02
  have HR1 : Hid _ := hr1
  have hcat : H.cellsOf (hdA ++ [104, 105]) ++ zc 1534 = H.cellsOf zsA := by rw [cells_zc, cellsOf_app]; rfl
  have HCat : Hid _ := hcat
  clear hown hge hle hb12 o1 hcs hcat hsz2 hr1 hb02 qe
  go_upto_region 5 with (first
    | (at_builtin; refine Lib.wpList_append_run _ rfl _ _ _ _ rfl _ _ rfl rfl _ _ HR1.out ?_)
    | (at_builtin; refine wpList_append_own_zeros w2 rfl _ _ 22 3 rfl w.heap.size 5 .i64 .i64 i0 Tryz.underlying22 Tryz.underlying3 hi hz0 hz1 hz2 _ 514 (H.cellsOf (hdA ++ [104, 105])) rfl HO2.out (by intro e; cases e) 1534 rfl (by omega) HB2.out.size ?_; intro v3 w3 o3 g3 at3))
  have g3' : w2.grownBy w3 (some w1.heap.size) := g3
  have o3' : w3.ownsRow w.heap.size 5 1 v3 2048 (H.cellsOf zsA) := by
    have := o3
    rw [HCat.out] at this
    exact this
  have b3 : Below w.heap.size w w3 := ⟨g3'.os.trans HB2.out.os, g3'.tape.trans HB2.out.tape, g3'.output.trans HB2.out.output, Nat.le_trans HB2.out.size g3'.size, fun k hk => (g3'.block k (by have := HB2.out.size; omega) (by simp; omega)).trans (HB2.out.block k hk)⟩
  clear g3 at3 o3 g3' HO2 HB2 HR1 HCat hs12 hc2
  rcases id o3'.2 with ⟨e1, e2⟩ | ⟨B, c3, cur, e1, eB, e3, e4, e5, e6, e7⟩
  · exact absurd e2 (by omega)
  subst e1
  have hBs : Bs w3 B 0 zsA := o3'.cells (g := B) rfl
  have hB3 : B < w3.heap.size := lt_of_heap e3
  unfold maxLen at e5
  clear o3' e3 e6 e7
  have HB3 : Hid (Below w.heap.size w w3) := b3
  have HBs : Hid (Bs w3 B 0 zsA) := hBs
  clear b3 hBs
  go_upto_region 8 with (go_at_call 13; refine (new_w w3).mono ?_; rintro e w4 ⟨rfl, pm4, b34, s34⟩)
  have hs3 := HB3.out.size
  have b4 := HB3.out.trans (b34.mono hs3)
  have hL4 := HLb.out.below b4
  have h14 := HLb.out.sz
  have qf := feed_w fall0 pm4 (rok_new fall0) (.inl (by show (512 : Nat) ≠ 0; omega)) hL4 (fun k hk => by rcases hk with rfl | hk | hk | hk; omega; cases hk; cases hk; cases hk) B 0 c3 zsA (HBs.out.moved (b34.block B hB3)) zsA_allB (by omega) (fun hk => by rcases hk with hk | hk | hk | hk; omega; cases hk; cases hk; cases hk) (by rw [zsA_len]; exact e4) e5 (by rw [zsA_len]; omega) (by rw [zsA_len]; show 0 + 2048 ≤ _; omega)
  rw [zsA_len] at qf
  have HB4 : Hid _ := b4
  clear b4 hL4 b34 pm4 HBs
  generalize w3.heap.size = gp at *
  go_upto_region 9 with (go_at_call 14; refine qf.mono ?_; rintro e w5 ⟨v, L, rfl, hO, hm⟩)
  obtain ⟨x, hx, hLm⟩ := tagA (l := L.map (·.1)) (by rw [hm]; exact fedA)
  have h4 := fedA_pt
  have her := fedA_er
  generalize Pu.feed fns0 2048 (Pu.new fns0) zsA = R at *
  obtain ⟨kv5, gv5, lv5, hO5⟩ := hO.on
  obtain ⟨x0, x1, x2, x3, rfl⟩ : ∃ x0 x1 x2 x3, L = [x0, x1, x2, x3] := by
    have hl := congrArg List.length hLm
    rw [List.length_map] at hl
    match L, hl with
    | [a, b, c, d], _ => exact ⟨a, b, c, d, rfl⟩
  simp only [List.map_cons, List.map_nil, List.cons.injEq, and_true] at hLm
  obtain ⟨l0, l1, l2, l3⟩ := hLm
  obtain ⟨y0, v0⟩ := x0
  obtain ⟨y1, v1⟩ := x1
  obtain ⟨y2, v2⟩ := x2
  obtain ⟨y3, v3⟩ := x3
  simp only at l0 l1 l2 l3
  subst l0 l1 l2 l3
  obtain ⟨G, cG, rfl, k1, k2, k3, k4, k5, k6⟩ := hO5.dat (.dat [104, 105] 514, v1) (by simp)
  have hE := hO5.evs
  have qe := end_w hO5.pm
  have hend : endV R.1 = .nilIface := by
    unfold endV
    rw [if_pos h4, her]
    rfl
  rw [hend] at qe
  have hmv := hO5.mv
  have HBE : Hid (Below w.heap.size w w5) := HB4.out.trans (hmv.below HB4.out.size (fun k hk => by rcases hk with rfl | hk | hk | hk; omega; cases hk; cases hk; cases hk))
  rcases id hE.2 with ⟨e1, e2⟩ | ⟨GE, cE, curE, e1, eB2, e3, e4E, e5E, e6E, e7E⟩
  · exact absurd e2 (by simp)
  subst e1
  have hce := hE.cells (g := GE) rfl
  have hGE := lt_of_heap e3
  have c0 := hce 0 (.int .i64 1) rfl
  have c1 := hce 1 (.string x.path) rfl
  have c25 := hce 25 (.slice (some ⟨G, 0, none⟩) 2 cG) rfl
  have c42 := hce 42 (.int .i64 4) rfl
  rw [add_at] at c0 c1 c25 c42
  rw [hx] at c1
  have hcv := H.conv_str w5 G 0 cG [104, 105] (fun i hi => by have := k3.1.cell i hi; rw [add_at] at this; exact this)
  have hso : H.strOf [104, 105] = ⟨#[104, 105]⟩ := rfl
  rw [hso] at hcv
  clear hO hO5 hm hE hce e3 e6E e7E k3 hmv qf HB4 hend h4 her
  simp only [Nat.zero_add] at c0 c1 c25 c42
  simp only [List.length_cons, List.length_nil] at k1 e4E hcv
  go_wp2_with (go_at_call 17; refine qe.mono ?_; rintro e w6 ⟨rfl, rfl⟩)
  go_ret
  exact ⟨by first | rfl | simp, HBE.out⟩
end Go.Proofs.YtnmmaedngdibeaaGreatDoor

namespace Go.Proofs.YtnmmaedngdibeaaGreatDoor
open Go.RowKit
set_option linter.unusedVariables false
set_option linter.unusedSimpArgs false

/-- a header by the name p, of a type, with so many bytes -/
def hdM (ty sz : Int) : List Int := H.sealL (H.encL ⟨#[112]⟩ ⟨#[]⟩ ⟨#[]⟩ ⟨#[]⟩ ⟨#[]⟩ ty (H.numsF 0 0 0 sz 0))
theorem textsM : H.textsB ⟨#[112]⟩ ⟨#[]⟩ ⟨#[]⟩ ⟨#[]⟩ ⟨#[]⟩ = true := by decide +kernel
theorem numsM (sz : Int) (h0 : 0 ≤ sz) (h1 : sz < 8589934592) : ∀ k, k < 5 → H.numFit (H.numsF 0 0 0 sz 0) k = true := by
  intro k hk
  have hkk : k = 0 ∨ k = 1 ∨ k = 2 ∨ k = 3 ∨ k = 4 := by omega
  rcases hkk with rfl | rfl | rfl | rfl | rfl
  · show H.fitsB 0 8 = true; decide +kernel
  · show H.fitsB 0 8 = true; decide +kernel
  · show H.fitsB 0 8 = true; decide +kernel
  · show H.fitsB sz 12 = true
    rw [H.fits_iff sz 12 (by omega) (by omega)]
    refine ⟨h0, ?_⟩
    have e : (8 : Int) ^ ((12 : Int) - 1).toNat = 8589934592 := by decide +kernel
    omega
  · show H.fitsB 0 12 = true; decide +kernel
theorem dec_of {z : List Int} {n l p u r : ByteArray} {ty sz : Int} (h0 : 0 ≤ sz) (h1 : sz < 8589934592) (hd : H.HdOf z n l p u r ty (H.numsF 0 0 0 sz 0)) (hr : H.rightB z = true) : ∃ y : E.Hd, decH z = .inr y ∧ y.typ = ty ∧ y.size = sz := by
  have hn := hd.eN (fun j hj => by
    have hkk : j = 0 ∨ j = 1 ∨ j = 2 ∨ j = 3 ∨ j = 4 := by omega
    rcases hkk with rfl | rfl | rfl | rfl | rfl <;> simp [H.numsF] <;> omega)
  refine ⟨hdOf z, ?_, hd.type, (hn 3 (by omega)).2⟩
  unfold decH
  rw [if_neg (by rw [hr]; simp), if_neg (by rw [(hn 0 (by omega)).1]; simp), if_neg (by rw [(hn 1 (by omega)).1]; simp), if_neg (by rw [(hn 2 (by omega)).1]; simp), if_neg (by rw [(hn 3 (by omega)).1]; simp), if_neg (by rw [(hn 4 (by omega)).1]; simp)]
theorem blank_of {z : List Int} {l p u r : ByteArray} {ty : Int} {ns : Nat → Int} (hd : H.HdOf z ⟨#[112]⟩ l p u r ty ns) : H.blankB z = false := by
  cases hb : H.blankB z with
  | false => rfl
  | true =>
    exfalso
    have e := hd.out 0 (by omega) (by omega)
    rw [H.gD_encL _ _ _ _ _ _ _ hd.fit] at e
    have hall : ∀ x ∈ z, x = 0 := by
      intro x hx
      have := List.all_eq_true.1 hb x hx
      simpa using this
    have e2 : H.gD z 0 = 0 := by
      unfold H.gD
      rw [List.getElem?_eq_getElem (by rw [hd.len]; omega)]
      exact hall _ (List.getElem_mem _)
    have e3 : H.gD (H.s8 ⟨#[112]⟩) (0 - 0) = 112 := by decide +kernel
    have e4 : (⟨#[112]⟩ : ByteArray).size = 1 := rfl
    rw [e2, if_neg (by omega), if_neg (by omega), if_neg (by omega), if_neg (by omega), if_neg (by omega), if_neg (by omega), if_pos (by rw [e4]; omega), e3] at e
    omega
section
variable {ty sz : Int}
theorem hdM_of (h0 : 0 ≤ sz) (h1 : sz < 8589934592) : H.HdOf (hdM ty sz) ⟨#[112]⟩ ⟨#[]⟩ ⟨#[]⟩ ⟨#[]⟩ ⟨#[]⟩ ty (H.numsF 0 0 0 sz 0) := H.hdOf_enc _ _ _ _ _ _ _ textsM (numsM sz h0 h1)
theorem hdM_allB (ht : 0 ≤ ty ∧ ty ≤ 255) : H.AllB (hdM ty sz) := H.sealL_allB _ (H.encL_allB _ _ _ _ _ _ _ ht)
theorem hdM_right (ht : 0 ≤ ty ∧ ty ≤ 255) : H.rightB (hdM ty sz) = true := H.sealL_right _ (H.encL_length _ _ _ _ _ _ _ textsM) (H.encL_allB _ _ _ _ _ _ _ ht)
theorem hdM_blank (h0 : 0 ≤ sz) (h1 : sz < 8589934592) : H.blankB (hdM ty sz) = false := blank_of (hdM_of (ty := ty) h0 h1)
theorem hdM_dec (h0 : 0 ≤ sz) (h1 : sz < 8589934592) (ht : 0 ≤ ty ∧ ty ≤ 255) : ∃ y : E.Hd, decH (hdM ty sz) = .inr y ∧ y.typ = ty ∧ y.size = sz := dec_of h0 h1 (hdM_of h0 h1) (hdM_right ht)
theorem hdM_len (h0 : 0 ≤ sz) (h1 : sz < 8589934592) : (hdM ty sz).length = 512 := (hdM_of (ty := ty) h0 h1).len
end

/-- a parser ahead of beginMeta -/
def mtS (z : List Int) (c : Int) : PsR := ⟨512, 0, 0, z, 0, c, false, [], [], ⟨#[]⟩, ⟨#[]⟩, none⟩
/-- fed, a whole header of what stands ahead -/
theorem fed_meta {z : List Int} {y : E.Hd} (hl : z.length = 512) (hb : H.blankB z = false) (hd : decH z = .inr y) (hc : clsP y.typ = 2 ∨ clsP y.typ = 3 ∨ clsP y.typ = 4 ∨ clsP y.typ = 5) :
    Pu.feed fns0 512 (Pu.new fns0) z = ((Pu.settle fns0 2 (Pu.beginMeta fns0 (mtS z (clsP y.typ)) y.size).1).1, (Pu.beginMeta fns0 (mtS z (clsP y.typ)) y.size).2 ++ (Pu.settle fns0 2 (Pu.beginMeta fns0 (mtS z (clsP y.typ)) y.size).1).2) := by
  have hne : z ≠ [] := fun e => by rw [e] at hl; simp at hl
  have hnot : ¬ (z = [] ∨ (Pu.new fns0).pt = 4) := fun q => by rcases q with q | q; exact hne q; exact absurd q (by decide)
  have hmin : min (Pu.new fns0).lf z.length = 512 := by rw [hl]; rfl
  have htk : z.take 512 = z := List.take_of_length_le (by omega)
  have hdr : z.drop 512 = [] := List.drop_eq_nil_of_le (by omega)
  have ht : Pu.take (E := E.En) (Pu.new fns0) z = ((mtS z 0), []) := by
    unfold Pu.take
    simp only [Pu.new, hl, mtS]
    simp [fns0]
  have hturn : Pu.turn fns0 (mtS z 0) = Pu.beginMeta fns0 (mtS z (clsP y.typ)) y.size := by
    have hx : ¬ clsP y.typ = 0 := by omega
    have hx1 : ¬ clsP y.typ = 1 := by omega
    have e1 : fns0.blank z = false := hb
    have e2 : fns0.decode z = .inr y := hd
    have e3 : fns0.cls (fns0.typ y) = clsP y.typ := rfl
    have e4 : fns0.size y = y.size := rfl
    have e0 : Pu.turn fns0 (mtS z 0) = Pu.endHeader fns0 (mtS z 0) := by
      unfold Pu.turn
      exact if_pos rfl
    rw [e0]
    unfold Pu.endHeader
    simp only [mtS, e1, e2, e3, e4]
    simp [hx, hx1]
  have hset : Pu.settle fns0 3 (mtS z 0) = ((Pu.settle fns0 2 (Pu.beginMeta fns0 (mtS z (clsP y.typ)) y.size).1).1, (Pu.beginMeta fns0 (mtS z (clsP y.typ)) y.size).2 ++ (Pu.settle fns0 2 (Pu.beginMeta fns0 (mtS z (clsP y.typ)) y.size).1).2) := by
    conv => lhs; unfold Pu.settle
    rw [if_pos ⟨rfl, (by show (0 : Nat) ≠ 4; omega)⟩, hturn]
  show Pu.feed fns0 (511 + 1) _ _ = _
  unfold Pu.feed
  rw [if_neg hnot]
  simp only [hmin, htk, hdr, ht, hset]
  have hnil : ∀ s, Pu.feed fns0 511 s [] = (s, []) := fun s => by
    show Pu.feed fns0 (510 + 1) _ _ = _
    unfold Pu.feed
    rw [if_pos (.inl rfl)]
  rw [hnil]
  simp
/-- too many bytes ahead of an entry -/
theorem meta_big {z : List Int} {y : E.Hd} (hl : z.length = 512) (hb : H.blankB z = false) (hd : decH z = .inr y) (hc : clsP y.typ = 2 ∨ clsP y.typ = 3 ∨ clsP y.typ = 4 ∨ clsP y.typ = 5) (hs : 8192 < y.size) :
    (Pu.feed fns0 512 (Pu.new fns0) z).2 = [.bad 2 0 512] := by
  rw [fed_meta hl hb hd hc]
  have hbm : Pu.beginMeta (E := E.En) fns0 (mtS z (clsP y.typ)) y.size = (Pu.stop fns0 (mtS z (clsP y.typ)) (some (2, 0)), [.bad 2 0 512]) := by
    unfold Pu.beginMeta
    rw [if_neg (by omega), if_pos hs]
    rfl
  rw [hbm]
  have : Pu.settle (E := E.En) fns0 2 (Pu.stop fns0 (mtS z (clsP y.typ)) (some (2, 0))) = (Pu.stop fns0 (mtS z (clsP y.typ)) (some (2, 0)), []) := Pu.settle_of_fit fns0 (.inr rfl) 2
  simp only [this]
  rfl
theorem text_nil : textP [] = ⟨#[]⟩ := rfl
theorem lay_nil (c : Int) (hc : c = 2 ∨ c = 3 ∨ c = 4 ∨ c = 5) (a : Nat) : ∃ s : PsR, Pu.layAhead fns0 ⟨512, a, 0, [], 0, c, false, [], [], ⟨#[]⟩, ⟨#[]⟩, none⟩ = (s, 0) ∧ s.rd = 512 := by
  rcases hc with rfl | rfl | rfl | rfl
  · exact ⟨_, rfl, rfl⟩
  · exact ⟨_, rfl, rfl⟩
  · exact ⟨_, rfl, rfl⟩
  · exact ⟨_, rfl, rfl⟩
/-- .. and as many as may be -/
theorem meta_small {z : List Int} {y : E.Hd} (hl : z.length = 512) (hb : H.blankB z = false) (hd : decH z = .inr y) (hc : clsP y.typ = 2 ∨ clsP y.typ = 3 ∨ clsP y.typ = 4 ∨ clsP y.typ = 5) (h0 : 0 ≤ y.size) (hs : y.size ≤ 8192) :
    (Pu.feed fns0 512 (Pu.new fns0) z).2 = [] ∧ (Pu.feed fns0 512 (Pu.new fns0) z).1.rd = 512 ∧ (Pu.feed fns0 512 (Pu.new fns0) z).1.pt ≠ 4 := by
  rw [fed_meta hl hb hd hc]
  have hbm : Pu.beginMeta (E := E.En) fns0 (mtS z (clsP y.typ)) y.size = (⟨512, 1, y.size.toNat, [], 0, clsP y.typ, false, [], [], ⟨#[]⟩, ⟨#[]⟩, none⟩, []) := by
    unfold Pu.beginMeta
    rw [if_neg (by omega), if_neg (by omega)]
    rfl
  rw [hbm]
  by_cases hz : y.size.toNat = 0
  · rw [hz]
    obtain ⟨s, e1, e2⟩ := lay_nil (clsP y.typ) hc 1
    have hturn : Pu.turn (E := E.En) fns0 (⟨512, 1, 0, [], 0, clsP y.typ, false, [], [], ⟨#[]⟩, ⟨#[]⟩, none⟩ : PsR) = (Pu.fill s, []) := by
      unfold Pu.turn
      rw [if_neg (by show ¬ (1 : Nat) = 0; omega), if_pos rfl]
      unfold Pu.endMeta
      rw [e1]
      exact if_pos rfl
    have h3 : Pu.fill s = { Pu.expect s 3 0 with rd := s.rd } := by
      unfold Pu.fill Pu.expect Pu.pad
      rw [e2]
    have hs2 : Pu.settle (E := E.En) fns0 2 (⟨512, 1, 0, [], 0, clsP y.typ, false, [], [], ⟨#[]⟩, ⟨#[]⟩, none⟩ : PsR) = (Pu.expect (Pu.fill s) 0 512, []) := by
      have e3 : (Pu.fill s).lf = 0 := by rw [h3]; rfl
      have e4 : (Pu.fill s).pt = 3 := by rw [h3]; rfl
      have ht2 : Pu.turn (E := E.En) fns0 (Pu.fill s) = (Pu.expect (Pu.fill s) 0 512, []) := by
        unfold Pu.turn
        rw [if_neg (by omega), if_neg (by omega), if_neg (by omega)]
      show Pu.settle (E := E.En) fns0 (1 + 1) _ = _
      conv => lhs; unfold Pu.settle
      rw [if_pos ⟨rfl, (by show (1 : Nat) ≠ 4; omega)⟩, hturn]
      have : Pu.settle (E := E.En) fns0 1 (Pu.fill s) = (Pu.expect (Pu.fill s) 0 512, []) := by
        show Pu.settle (E := E.En) fns0 (0 + 1) _ = _
        unfold Pu.settle
        rw [if_pos ⟨e3, by omega⟩, ht2]
        rfl
      simp only [this]
      rfl
    rw [hs2]
    refine ⟨rfl, ?_, by show (0 : Nat) ≠ 4; omega⟩
    show s.rd = 512
    exact e2
  · have : Pu.settle (E := E.En) fns0 2 (⟨512, 1, y.size.toNat, [], 0, clsP y.typ, false, [], [], ⟨#[]⟩, ⟨#[]⟩, none⟩ : PsR) = (⟨512, 1, y.size.toNat, [], 0, clsP y.typ, false, [], [], ⟨#[]⟩, ⟨#[]⟩, none⟩, []) := Pu.settle_of_fit fns0 (.inl hz) 2
    rw [this]
    exact ⟨rfl, rfl, by show (1 : Nat) ≠ 4; omega⟩
end Go.Proofs.YtnmmaedngdibeaaGreatDoor

namespace Go.Proofs.YtnmmaedngdibeaaGreatDoor
open Go.RowKit
open Go.Lib hiding intOf
set_option linter.unusedVariables false
set_option linter.unusedSimpArgs false

theorem chain_one_form (e p : Int) : ∃ t x, F.chain e [p] = .iface t x := F.chain_form e [p]
theorem cls4 {ty : Int} (h : ty = 120 ∨ ty = 103 ∨ ty = 76 ∨ ty = 75) : clsP ty = 2 ∨ clsP ty = 3 ∨ clsP ty = 4 ∨ clsP ty = 5 := by
  rcases h with rfl | rfl | rfl | rfl <;> decide

set_option maxRecDepth 20000 in
set_option maxHeartbeats 8000000 in
theorem meta_in (sz ty : Int) (hty : ty = 120 ∨ ty = 103 ∨ ty = 76 ∨ ty = 75) (h0 : 0 ≤ sz) (h1 : sz < 8589934592) (w : World) (hL : Lb w) (hF : F.Laid w) :
    Calls Tryz.prog 8 #[.int .i64 sz, .int .u8 ty] w fun e w' => e = .returned (.bool true) ∧ Below w.heap.size w w' := by
  have q0 := reads_w w hL
  have ht255 : 0 ≤ ty ∧ ty ≤ 255 := by omega
  have HE : Hid (∀ W, Below w.heap.size w W → Calls Tryz.prog 20 #[.agg #[.int .i64 0, .string ⟨#[112]⟩, .string ⟨#[]⟩, .string ⟨#[]⟩, .string ⟨#[]⟩, .string ⟨#[]⟩, .int .u8 ty, .int .i64 0, .int .i64 0, .int .i64 0, .int .i64 sz, .int .i64 0]] W fun e w' =>
      ∃ g, e = .returned (.tuple #[.slice (some ⟨g, 0, none⟩) 512 512, .int .i64 0]) ∧ H.Own W w' g (hdM ty sz)) := fun W b => enc_fits ⟨#[112]⟩ ty 0 sz W textsM (numsM sz h0 h1) (hL.below b).laid ht255 (by omega) (by omega)
  have hlen := hdM_len (ty := ty) h0 h1
  have hall := hdM_allB (sz := sz) ht255
  have hbl := hdM_blank (ty := ty) h0 h1
  obtain ⟨y, hdec, hyt, hys⟩ := hdM_dec h0 h1 ht255
  have hcl := cls4 hty
  rw [← hyt] at hcl
  have hbig := meta_big hlen hbl hdec hcl
  have hsmall := meta_small hlen hbl hdec hcl
  rw [hys] at hbig hsmall
  generalize hdM ty sz = z at *
  have HBig : Hid _ := hbig
  have HSmall : Hid _ := hsmall
  have HLb : Hid (Lb w) := hL
  have HFl : Hid (F.Laid w) := hF
  have HAll : Hid (H.AllB z) := hall
  have HLen : Hid (z.length = 512) := hlen
  have hzz := zeroHdr
  unfold H.hcells at hzz
  have n0 : ¬ sz < 0 := by omega
  have n1 : ¬ 8589934592 ≤ sz := by omega
  have h14 := hL.sz
  clear hbig hsmall hL hF hall hlen hbl hdec hyt hys hcl ht255
  rcases hty with rfl | rfl | rfl | rfl
  all_goals
    go_enter Tryz.func8, Tryz.ntmps8
    go_upto_region 5 with (go_at_call 10; refine q0.mono ?_; rintro e w1 ⟨rfl, b1⟩)
    have HB1 : Hid (Below w.heap.size w w1) := b1
    go_upto_region 8 with (go_at_call 20; refine (HE.out _ HB1.out).mono ?_; rintro e w2 ⟨g, rfl, o2⟩)
    have hs1 := HB1.out.size
    have b2 := HB1.out.trans (o2.below.mono hs1)
    have hge := o2.ge
    have hgl := o2.lt
    have hsrc := o2.src
    have HB2 : Hid (Below w.heap.size w w2) := b2
    have HSrc : Hid (H.Src w2 (some ⟨g, 0, none⟩) z) := hsrc
    clear b1 o2 b2 hsrc HB1 HE q0
    go_upto_region 9 with (go_at_call 13; refine (new_w w2).mono ?_; rintro e w3 ⟨rfl, pm3, b23, s23⟩)
    have hs2 := HB2.out.size
    have b3 := HB2.out.trans (b23.mono hs2)
    have hBs : Bs w3 g 0 z := by
      obtain ⟨ad, e, h⟩ := HSrc.out (by rw [HLen.out]; omega)
      cases e
      exact Bs.moved (w := w2) h (b23.block g hgl)
    have qf := feed_w fall0 pm3 (rok_new fall0) (.inl (by show (512 : Nat) ≠ 0; omega)) (HLb.out.below b3) (fun k hk => by rcases hk with rfl | hk | hk | hk; omega; cases hk; cases hk; cases hk) g 0 512 z hBs HAll.out (by omega) (fun hk => by rcases hk with hk | hk | hk | hk; omega; cases hk; cases hk; cases hk) (by rw [HLen.out]; omega) (by omega) (by rw [HLen.out]; omega) (by rw [HLen.out]; show 0 + 512 ≤ _; omega)
    rw [HLen.out] at qf
    have HB3 : Hid (Below w.heap.size w w3) := b3
    clear b3 b23 pm3 hBs HSrc
    generalize w2.heap.size = gp at *
    go_upto_region 10 with (go_at_call 14; refine qf.mono ?_; rintro e w4 ⟨v, L, rfl, hO, hm⟩)
    obtain ⟨kv4, gv4, lv4, hO4⟩ := hO.on
    have hmv := hO4.mv
    have HB4 : Hid (Below w.heap.size w w4) := HB3.out.trans (hmv.below HB3.out.size (fun k hk => by rcases hk with rfl | hk | hk | hk; omega; cases hk; cases hk; cases hk))
    have hF4 := HFl.out.below HB4.out
    by_cases hbg : 8192 < sz
    · rw [HBig.out hbg] at hm
      obtain ⟨x0, rfl⟩ : ∃ x0, L = [x0] := by
        have hl := congrArg List.length hm
        rw [List.length_map] at hl
        match L, hl with
        | [a], _ => exact ⟨a, rfl⟩
      simp only [List.map_cons, List.map_nil, List.cons.injEq, and_true] at hm
      obtain ⟨y0, v0⟩ := x0
      simp only at hm
      subst hm
      have hE := hO4.evs
      rcases id hE.2 with ⟨e1, e2⟩ | ⟨GE, cE, curE, e1, eB2, e3, e4E, e5E, e6E, e7E⟩
      · exact absurd e2 (by simp)
      subst e1
      have hce := hE.cells (g := GE) rfl
      have hGE := lt_of_heap e3
      obtain ⟨t, x, hx⟩ := F.chain_form 2 [0]
      have c0 := hce 0 (.int .i64 5) rfl
      have c12 := hce 12 (F.chain 2 [0]) rfl
      rw [add_at] at c0 c12
      have qc : ∀ W, F.Laid W → Calls Tryz.prog 18 #[F.chain 2 [0]] W fun ev w' => ev = .returned (.int .i64 2) ∧ Below W.heap.size W w' := fun W h => F.code_any (some [0]) 2 W h
      have qp : ∀ W, F.Laid W → Calls Tryz.prog 19 #[F.chain 2 [0]] W fun ev w' => ev = .returned (.int .i64 0) ∧ Below W.heap.size W w' := fun W h => F.place_any (some [0]) 2 W h
      rw [hx] at c12 qc qp
      simp only [Nat.zero_add] at c0 c12
      simp only [List.length_cons, List.length_nil] at e4E
      have HF4 : Hid (F.Laid w4) := hF4
      have HK : Hid (∀ W, Below w4.heap.size w4 W → F.Laid W ∧ W.cell? ⟨GE, 12, none⟩ = some (.iface t x) ∧ Below w.heap.size w W) := fun W b => ⟨HF4.out.below b, (b.cell (p := ⟨GE, 12, none⟩) hGE).trans c12, HB4.out.trans (b.mono HB4.out.size)⟩
      have hg5 := hGE
      clear hO hO4 hE hce e3 e6E e7E hmv qf hF4
      go_wp2_with (first
        | (go_at_call 18; refine (qc _ HF4.out).mono ?_; rintro e w5 ⟨rfl, b5⟩; obtain ⟨f5, d12, B5⟩ := HK.out w5 b5; have hg5 := Nat.lt_of_lt_of_le hGE b5.size)
        | (go_at_call 19; refine (qp _ f5).mono ?_; rintro e w6 ⟨rfl, b6⟩))
      go_ret
      exact ⟨by first | rfl | simp, B5.trans (b6.mono B5.size)⟩
    · obtain ⟨m1, m2, m3⟩ := HSmall.out h0 (by omega)
      rw [m1] at hm
      obtain rfl : L = [] := by
        have hl := congrArg List.length hm
        rw [List.length_map] at hl
        exact List.eq_nil_of_length_eq_zero hl
      obtain ⟨va, vc, rfl, _, _, _⟩ := own_sl hO4.evs
      have qe := end_w hO4.pm
      have qa := fun W b => at_w (hO4.pm.grow (w' := W) b)
      have hend : endV (Pu.feed fns0 512 (Pu.new fns0) z).1 = F.chain 5 [512] := by
        unfold endV
        rw [if_neg m3, m2]
        rfl
      rw [hend] at qe
      rw [m2] at qa
      have HQA : Hid (∀ W, Below w4.heap.size w4 W → Calls Tryz.prog 16 #[.pointer (some ⟨gp, 0, none⟩)] W fun e w' => e = .returned (.int .i64 512) ∧ w' = W) := qa
      have qc : Calls Tryz.prog 18 #[F.chain 5 [512]] w4 fun ev w' => ev = .returned (.int .i64 5) ∧ Below w4.heap.size w4 w' := F.code_any (some [512]) 5 w4 hF4
      obtain ⟨t, x, hx⟩ := F.chain_form 5 [512]
      rw [hx] at qc qe
      clear hO hO4 hmv qf hF4 m1 m2 m3 hend qa
      go_wp2_with (first
        | (go_at_call 17; refine qe.mono ?_; rintro e w5 ⟨rfl, rfl⟩)
        | (go_at_call 18; refine qc.mono ?_; rintro e w6 ⟨rfl, b6⟩)
        | (go_at_call 16; refine (HQA.out _ b6).mono ?_; rintro e w7 ⟨rfl, rfl⟩))
      go_ret
      exact ⟨by first | rfl | simp, HB4.out.trans (b6.mono HB4.out.size)⟩

set_option maxRecDepth 20000 in
set_option maxHeartbeats 4000000 in
/-- PushMeta -/
theorem meta_walk (sz ty : Int) (hty : 0 ≤ ty ∧ ty ≤ 255) (w : World) (hL : Lb w) (hF : F.Laid w) :
    Calls Tryz.prog 8 #[.int .i64 sz, .int .u8 ty] w fun e w' => e = .returned (.bool true) ∧ Below w.heap.size w w' := by
  by_cases hg : (ty = 120 ∨ ty = 103 ∨ ty = 76 ∨ ty = 75) ∧ 0 ≤ sz ∧ sz < 8589934592
  · exact meta_in sz ty hg.1 hg.2.1 hg.2.2 w hL hF
  · have q0 := reads_w w hL
    clear hL hF
    have HG : (ty ≠ 120 ∧ ty ≠ 103 ∧ ty ≠ 76 ∧ ty ≠ 75) ∨ ((ty = 120 ∨ ty = 103 ∨ ty = 76 ∨ ty = 75) ∧ sz < 0) ∨ ((ty = 120 ∨ ty = 103 ∨ ty = 76 ∨ ty = 75) ∧ ¬ sz < 0 ∧ 8589934592 ≤ sz) := by omega
    clear hg
    rcases HG with ⟨h1, h2, h3, h4⟩ | ⟨rfl | rfl | rfl | rfl, h2⟩ | ⟨rfl | rfl | rfl | rfl, h2, h3⟩
    all_goals
      go_enter Tryz.func8, Tryz.ntmps8
      go_wp2_with (go_at_call 10; refine q0.mono ?_; rintro e w1 ⟨rfl, b1⟩)
      go_ret
      exact ⟨rfl, b1⟩
end Go.Proofs.YtnmmaedngdibeaaGreatDoor

