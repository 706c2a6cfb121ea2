/-
  Plain: the document's block of a header, piece by piece, is the program's.
-/
import Derived.Test.YtmholjjicklnhabDoorRfm
namespace Go.Proofs.YtmholjjicklnhabDoor
open Go.RowKit
set_option linter.unusedVariables false

theorem fld_split (zs : List Int) (a b c : Nat) (h1 : a ≤ b) (h2 : b ≤ c) : fld zs a b ++ fld zs b c = fld zs a c := by
  unfold fld
  rw [show c - a = (b - a) + (c - b) by omega, List.take_add, List.drop_drop, show a + (b - a) = b by omega]

def rep (k : Nat) : List Int := List.replicate k 0
def padT (s : ByteArray) (k : Nat) : List Int := s8 s ++ rep (k - s.size)

/-- the numbers, k of them -/
def numsL (ns : Nat → Int) : Nat → List Int
  | 0 => []
  | k + 1 => numsL ns k ++ numL (ns k) k

def bA (n : ByteArray) (ns : Nat → Int) (k : Nat) : List Int := padT n 100 ++ numsL ns k
def bB (l p u r : ByteArray) (ty : Int) : List Int := [ty] ++ padT l 100 ++ ustarL ++ padT u 32 ++ padT r 32 ++ rep 16 ++ padT p 155 ++ rep 12

theorem padT_length (s : ByteArray) (k : Nat) (h : s.size ≤ k) : (padT s k).length = k := by
  unfold padT rep
  rw [List.length_append, s8_length, List.length_replicate]; omega
theorem numsL_length (ns : Nat → Int) : (numsL ns 5).length = 48 := by
  simp only [numsL, List.length_append, numL_length]; rfl

theorem fld_pad {z : List Int} {n l p u r : ByteArray} {ty : Int} {ns : Nat → Int} (h : HdOf z n l p u r ty ns) :
    fld z 0 100 = padT n 100 ∧ fld z 157 257 = padT l 100 ∧ fld z 345 500 = padT p 155 ∧ fld z 265 297 = padT u 32 ∧ fld z 297 329 = padT r 32 ∧ fld z 156 157 = [ty] ∧ fld z 329 345 = rep 16 ∧ fld z 500 512 = rep 12 := by
  have s := texts_sizes h.fit
  have E : ∀ i, ¬ (148 ≤ i ∧ i < 156) → ¬ (257 ≤ i ∧ i < 265) → gD z i = _ := fun i h1 h2 => (h.out i h1 h2).trans (gD_encL n l p u r ty ns h.fit i)
  refine ⟨?_, ?_, ?_, ?_, ?_, ?_, ?_, ?_⟩
  · refine fld_gD z 0 100 (by rw [h.len]; omega) (by omega) (s8 n) _ (by rw [s8_length]; omega) (fun i hi => ?_) (fun i hi => ?_)
    · rw [s8_length] at hi
      rw [E _ (by omega) (by omega), if_neg (by omega), if_neg (by omega), if_neg (by omega), if_neg (by omega), if_neg (by omega), if_neg (by omega), if_pos (by omega), show 0 + i - 0 = i by omega]
    · rw [s8_length, E _ (by omega) (by omega), if_neg (by omega), if_neg (by omega), if_neg (by omega), if_neg (by omega), if_neg (by omega), if_neg (by omega), if_neg (by omega), gD_none _ _ (by omega)]
  · refine fld_gD z 157 257 (by rw [h.len]; omega) (by omega) (s8 l) _ (by rw [s8_length]; omega) (fun i hi => ?_) (fun i hi => ?_)
    · rw [s8_length] at hi
      rw [E _ (by omega) (by omega), if_neg (by omega), if_neg (by omega), if_neg (by omega), if_neg (by omega), if_neg (by omega), if_pos (by omega), show 157 + i - 157 = i by omega]
    · rw [s8_length, E _ (by omega) (by omega), if_neg (by omega), if_neg (by omega), if_neg (by omega), if_neg (by omega), if_neg (by omega), if_neg (by omega), if_neg (by omega), gD_none _ _ (by omega)]
  · refine fld_gD z 345 500 (by rw [h.len]; omega) (by omega) (s8 p) _ (by rw [s8_length]; omega) (fun i hi => ?_) (fun i hi => ?_)
    · rw [s8_length] at hi
      rw [E _ (by omega) (by omega), if_neg (by omega), if_pos (by omega), show 345 + i - 345 = i by omega]
    · rw [s8_length, E _ (by omega) (by omega), if_neg (by omega), if_neg (by omega), if_neg (by omega), if_neg (by omega), if_neg (by omega), if_neg (by omega), if_neg (by omega), gD_none _ _ (by omega)]
  · refine fld_gD z 265 297 (by rw [h.len]; omega) (by omega) (s8 u) _ (by rw [s8_length]; omega) (fun i hi => ?_) (fun i hi => ?_)
    · rw [s8_length] at hi
      rw [E _ (by omega) (by omega), if_neg (by omega), if_neg (by omega), if_neg (by omega), if_pos (by omega), show 265 + i - 265 = i by omega]
    · rw [s8_length, E _ (by omega) (by omega), if_neg (by omega), if_neg (by omega), if_neg (by omega), if_neg (by omega), if_neg (by omega), if_neg (by omega), if_neg (by omega), gD_none _ _ (by omega)]
  · refine fld_gD z 297 329 (by rw [h.len]; omega) (by omega) (s8 r) _ (by rw [s8_length]; omega) (fun i hi => ?_) (fun i hi => ?_)
    · rw [s8_length] at hi
      rw [E _ (by omega) (by omega), if_neg (by omega), if_neg (by omega), if_pos (by omega), show 297 + i - 297 = i by omega]
    · rw [s8_length, E _ (by omega) (by omega), if_neg (by omega), if_neg (by omega), if_neg (by omega), if_neg (by omega), if_neg (by omega), if_neg (by omega), if_neg (by omega), gD_none _ _ (by omega)]
  · have := fld_gD z 156 157 (by rw [h.len]; omega) (by omega) [ty] 0 (by simp) (fun i hi => ?_) (fun i hi => by omega)
    · rw [this]; simp
    · obtain rfl : i = 0 := by simpa using hi
      rw [E _ (by omega) (by omega), if_pos (by omega)]
      rfl
  · have := fld_gD z 329 345 (by rw [h.len]; omega) (by omega) [] 16 (by simp) (fun i hi => by simp at hi) (fun i hi => ?_)
    · rw [this]; simp [rep]
    · simp only [List.length_nil, Nat.add_zero]
      rw [E _ (by omega) (by omega), if_neg (by omega), if_neg (by omega), if_neg (by omega), if_neg (by omega), if_neg (by omega), if_neg (by omega), if_neg (by omega), gD_none _ _ (by omega)]
  · have := fld_gD z 500 512 (by rw [h.len]; omega) (by omega) [] 12 (by simp) (fun i hi => by simp at hi) (fun i hi => ?_)
    · rw [this]; simp [rep]
    · simp only [List.length_nil, Nat.add_zero]
      rw [E _ (by omega) (by omega), if_neg (by omega), if_neg (by omega), if_neg (by omega), if_neg (by omega), if_neg (by omega), if_neg (by omega), if_neg (by omega), gD_none _ _ (by omega)]

theorem fld_all (z : List Int) (h : z.length = 512) : fld z 0 512 = z := by
  unfold fld
  rw [List.drop_zero, List.take_of_length_le (by omega)]

theorem plainS_mid (A X Y B : List Int) (hA : A.length = 148) (hX : X.length = 8) (hY : Y.length = 8) : plainS (A ++ X ++ B) = plainS (A ++ Y ++ B) := by
  refine (sums_same _ _ (by simp; omega) (fun k hk => ?_)).1
  by_cases h1 : k < 148
  · rw [List.append_assoc, List.append_assoc, List.getElem?_append_left (by omega), List.getElem?_append_left (by omega)]
  · rw [List.getElem?_append_right (by simp; omega), List.getElem?_append_right (by simp; omega)]
    congr 1
    simp; omega

/-- the document's block, with its sum, is the program's -/
theorem block_same (n l p u r : ByteArray) (ty : Int) (ns : Nat → Int) (hf : textsB n l p u r = true) (hn : ∀ k, k < 5 → numFit ns k = true) :
    bA n ns 5 ++ (octs (plainS (bA n ns 5 ++ List.replicate 8 32 ++ bB l p u r ty)) 6 ++ [0]) ++ [32] ++ bB l p u r ty = sealL (encL n l p u r ty ns) := by
  have s := texts_sizes hf
  have hl := encL_length n l p u r ty ns hf
  have H := hdOf_enc n l p u r ty ns hf hn
  have hm := enc_magic n l p u r ty ns hf
  have hs : fld (sealL (encL n l p u r ty ns)) 148 156 = endF (plainS (encL n l p u r ty ns)) := fieldOf_putL _ _ hl (endF_length _)
  have hp := (sealL_sums _ hl).1
  obtain ⟨g1, g2, g3, g4, g5, g6, g7, g8⟩ := fld_pad H
  have n0 := H.num 0 (by omega)
  have n1 := H.num 1 (by omega)
  have n2 := H.num 2 (by omega)
  have n3 := H.num 3 (by omega)
  have n4 := H.num 4 (by omega)
  have hlen := H.len
  generalize plainS (encL n l p u r ty ns) = P at *
  generalize sealL (encL n l p u r ty ns) = z at *
  have hA : (bA n ns 5).length = 148 := by unfold bA; rw [List.length_append, padT_length n 100 (by omega), numsL_length]
  have hz : z = bA n ns 5 ++ endF P ++ bB l p u r ty := by
    have e : fld z 0 512 = fld z 0 100 ++ fld z 100 108 ++ fld z 108 116 ++ fld z 116 124 ++ fld z 124 136 ++ fld z 136 148 ++ fld z 148 156 ++ fld z 156 157 ++ fld z 157 257 ++ fld z 257 265 ++ fld z 265 297 ++ fld z 297 329 ++ fld z 329 345 ++ fld z 345 500 ++ fld z 500 512 := by
      rw [fld_split z 0 100 108 (by omega) (by omega), fld_split z 0 108 116 (by omega) (by omega), fld_split z 0 116 124 (by omega) (by omega), fld_split z 0 124 136 (by omega) (by omega), fld_split z 0 136 148 (by omega) (by omega), fld_split z 0 148 156 (by omega) (by omega), fld_split z 0 156 157 (by omega) (by omega), fld_split z 0 157 257 (by omega) (by omega), fld_split z 0 257 265 (by omega) (by omega), fld_split z 0 265 297 (by omega) (by omega), fld_split z 0 297 329 (by omega) (by omega), fld_split z 0 329 345 (by omega) (by omega), fld_split z 0 345 500 (by omega) (by omega), fld_split z 0 500 512 (by omega) (by omega)]
    rw [fld_all z hlen] at e
    simp only [numB, numE] at n0 n1 n2 n3 n4
    rw [g1, n0, n1, n2, n3, n4, hs, g6, g2, hm, g4, g5, g7, g3, g8] at e
    rw [e]
    simp only [bA, bB, numsL, List.nil_append, List.append_assoc]
  have hP : plainS (bA n ns 5 ++ List.replicate 8 32 ++ bB l p u r ty) = P := by
    rw [plainS_mid _ _ (endF P) _ hA (by simp) (endF_length _), ← hz, hp]
  rw [hP, hz]
  simp only [endF, List.append_assoc, List.cons_append, List.nil_append]

end Go.Proofs.YtmholjjicklnhabDoor
