/-
  The laws' walks: AskData.
-/
import Derived.Test.YtojbfdlgjjghjaaDoorKKo
import Derived.Lib.ConvBytes
namespace Go.Proofs.YtojbfdlgjjghjaaDoor.K
open Go.RowKit
open Go.Lib hiding intOf
set_option linter.unusedVariables false
set_option linter.unusedSimpArgs false

/-- "send 1 7" -/
def s17 : ByteArray := ⟨#[115, 101, 110, 100, 32, 49, 32, 55]⟩
theorem s17_enc (a : Ak) (h : a = ⟨2, 1, 7, 0, ⟨#[]⟩⟩) : encN (flds ((2 : Nat) : Int)) a (wd 2) = s17 := by subst h; kernel_rfl
/-- the line of bytes -/
def lineD (bs : List UInt8) : ByteArray := encP 2 ⟨2, 1, 7, 0, ⟨#[]⟩⟩ bs
theorem lineD_eq (bs : List UInt8) (h : bs ≠ []) : lineD bs = s17 ++ (sps ++ ⟨(sp bs).toArray⟩) := by
  have hne : ¬ (⟨(sp bs).toArray⟩ : ByteArray) = ⟨#[]⟩ := fun e => by
    have h2 : (sp bs).length = 0 := congrArg (fun x : ByteArray => x.data.toList.length) e
    rw [sp_length] at h2
    exact h (List.eq_nil_of_length_eq_zero (by omega))
  have hr : restP 2 (⟨#[]⟩ : ByteArray) bs = ⟨(sp bs).toArray⟩ := by unfold restP; rw [if_neg (by omega), if_pos rfl]
  unfold lineD encP
  rw [hr, if_neg hne, s17_enc _ rfl, ByteArray.append_assoc]
theorem lineD_size (bs : List UInt8) (h : bs.length ≤ 3000) : (lineD bs).size ≤ 6009 := by
  by_cases c : bs = []
  · subst c
    have : lineD [] = s17 := by unfold lineD encP; rw [if_pos (by decide), s17_enc _ rfl]
    rw [this]; decide
  · rw [lineD_eq bs c, ByteArray.size_append, ByteArray.size_append]
    show 8 + (1 + (sp bs).toArray.size) ≤ _
    simp [sp_length]; omega
theorem decD (bs : List UInt8) (h : bs.length ≤ 3000) : decP (lineD bs) = .inr (⟨2, 1, 7, 0, ⟨#[]⟩⟩, bs) :=
  dec_enc 2 (by omega) ⟨2, 1, 7, 0, ⟨#[]⟩⟩ bs (fun f hf => by have : f ∈ [1, 2] := hf; simp at this; rcases this with rfl | rfl <;> simp [Ak.get]) rfl (.inr rfl) (.inl rfl) (by have := lineD_size bs h; unfold lineD at this; omega)

/-- a line of whatever digits -/
theorem dec_r (r : List UInt8) (hs : r.length ≤ 7000) : decP (s17 ++ (sps ++ ⟨r.toArray⟩)) = match unsp r with | none => .inl 200 | some b => .inr (⟨2, 1, 7, 0, ⟨#[]⟩⟩, b) := by
  have h0 : s17 ++ (sps ++ (⟨r.toArray⟩ : ByteArray)) = encN (flds ((2 : Nat) : Int)) ⟨2, 1, 7, 0, ⟨#[]⟩⟩ (wd 2) ++ endE (some ⟨r.toArray⟩) := by rw [s17_enc _ rfl]; rfl
  have hz : (s17 ++ (sps ++ (⟨r.toArray⟩ : ByteArray))).size ≤ 16384 := by
    rw [ByteArray.size_append, ByteArray.size_append]
    show 8 + (1 + r.toArray.size) ≤ _
    simp; omega
  rw [h0] at hz ⊢
  rw [dec_tail 2 (by omega) ⟨2, 1, 7, 0, ⟨#[]⟩⟩ _ (fun f hf => by have : f ∈ [1, 2] := hf; simp at this; rcases this with rfl | rfl <;> simp [Ak.get]) hz]
  simp only [endP, Option.getD, lastP, if_neg (show ¬ (2 = 5 ∨ 2 = 6 ∨ 2 = 7 ∨ 2 = 8) by omega), if_true]
  have e2 : (⟨r.toArray⟩ : ByteArray).data.toList = r := rfl
  try rw [e2]
  cases unsp r with
  | none => rfl
  | some b => rfl

/-- the digits -/
def isHex (x : Int) : Bool := decide (48 ≤ x ∧ x ≤ 57) || decide (97 ≤ x ∧ x ≤ 102)
theorem hx_iff (x : UInt8) : 0 ≤ hx x ↔ isHex (x.toNat : Int) = true := by
  have h : ∀ n : Fin 256, (decide (0 ≤ hx (UInt8.ofNat n.val))) = isHex (n.val : Int) := by decide +kernel
  have := h ⟨x.toNat, x.toNat_lt⟩
  simp only [UInt8.ofNat_toNat] at this
  rw [← this]
  simp

/-- one byte of a line another one -/
theorem line_set (bs : List UInt8) (h : bs ≠ []) (j : Nat) (hj : j < 2 * bs.length) (odd : UInt8) : (lineD bs).data.toList.set (9 + j) odd = (s17 ++ (sps ++ ⟨((sp bs).set j odd).toArray⟩)).data.toList := by
  rw [lineD_eq bs h]
  simp only [ByteArray.data_append, Array.toList_append]
  have e1 : s17.data.toList.length = 8 := rfl
  have e2 : sps.data.toList.length = 1 := rfl
  rw [List.set_append_right _ _ (by rw [e1]; omega), e1, List.set_append_right _ _ (by rw [e2]; omega), e2]
  rw [show 9 + j - 8 - 1 = j by omega]
theorem dec_set (bs : List UInt8) (h : bs ≠ []) (hl : bs.length ≤ 3000) (j : Nat) (hj : j < 2 * bs.length) (odd : UInt8) :
    (isHex (odd.toNat : Int) = true → ∃ b, decP ⟨((lineD bs).data.toList.set (9 + j) odd).toArray⟩ = .inr (⟨2, 1, 7, 0, ⟨#[]⟩⟩, b)) ∧ (isHex (odd.toNat : Int) = false → decP ⟨((lineD bs).data.toList.set (9 + j) odd).toArray⟩ = .inl 200) := by
  have e : (⟨((lineD bs).data.toList.set (9 + j) odd).toArray⟩ : ByteArray) = s17 ++ (sps ++ ⟨((sp bs).set j odd).toArray⟩) := by
    rw [line_set bs h j hj odd]
  have hlen : ((sp bs).set j odd).length % 2 = 0 := by rw [List.length_set, sp_length]; omega
  obtain ⟨u1, u2⟩ := unsp_all ((sp bs).set j odd) hlen
  rw [e, dec_r _ (by rw [List.length_set, sp_length]; omega)]
  constructor
  · intro hh
    obtain ⟨b, hb⟩ := u1 fun x hx => by
      rcases List.mem_or_eq_of_mem_set hx with h1 | h1
      · exact sp_hex bs x h1
      · subst h1; exact (hx_iff x).2 hh
    exact ⟨b, by rw [hb]⟩
  · intro hh
    have hneg : hx odd < 0 := by
      have h1 := hx_iff odd
      rw [hh] at h1
      have h3 : ¬ 0 ≤ hx odd := fun h2 => by have := h1.1 h2; cases this
      omega
    have : unsp ((sp bs).set j odd) = none := u2 ⟨odd, List.mem_set (by rw [sp_length]; exact hj) odd, hneg⟩
    rw [this]
/-- without its last byte -/
theorem dec_cut (bs : List UInt8) (h : bs ≠ []) (hl : bs.length ≤ 3000) : decP ((lineD bs).extract 0 ((lineD bs).size - 1)) = .inl 200 := by
  have hne : sp bs ≠ [] := fun e => by
    have := congrArg List.length e
    rw [sp_length] at this
    exact h (List.eq_nil_of_length_eq_zero (by simp at this; omega))
  have hz : (lineD bs).size = 9 + (sp bs).length := by
    rw [lineD_eq bs h, ByteArray.size_append, ByteArray.size_append]
    show 8 + (1 + (sp bs).toArray.size) = _
    simp; omega
  have e : (lineD bs).extract 0 ((lineD bs).size - 1) = s17 ++ (sps ++ ⟨((sp bs).dropLast).toArray⟩) := by
    have hpos : 0 < (sp bs).length := List.length_pos_iff.2 hne
    rw [hz, lineD_eq bs h]
    apply ByteArray.ext
    apply Array.ext'
    rw [ByteArray.data_extract]
    simp only [ByteArray.data_append, Array.toList_append, Array.toList_extract, List.extract_eq_take_drop, List.drop_zero, Nat.sub_zero]
    have e1 : s17.data.toList.length = 8 := rfl
    have e2 : sps.data.toList.length = 1 := rfl
    rw [List.take_append, e1, List.take_of_length_le (by rw [e1]; omega), List.take_append, e2, List.take_of_length_le (by rw [e2]; omega)]
    rw [List.dropLast_eq_take]
    congr 3
    omega
  have hodd : ((sp bs).dropLast).length % 2 = 1 := by rw [List.length_dropLast, sp_length]; have := List.length_pos_iff.2 h; omega
  rw [e, dec_r _ (by rw [List.length_dropLast, sp_length]; omega), unsp_odd _ hodd]

end Go.Proofs.YtojbfdlgjjghjaaDoor.K
