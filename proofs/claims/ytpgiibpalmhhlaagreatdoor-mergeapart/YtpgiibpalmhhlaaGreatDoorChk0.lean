/-
  Plain: a text looked through sign by sign.
-/
import Derived.Test.YtpgiibpalmhhlaaGreatDoorPl0
import Derived.Laws.RangeAny
import Derived.Lib.OthersKept
namespace Go.Proofs.YtpgiibpalmhhlaaGreatDoor
open Go.Lib
set_option linter.unusedVariables false
set_option linter.unusedSimpArgs false

/-- what a look through a text says -/
def chk (s : List UInt8) : Int := if 0 ∈ s then 101 else if validD s = false then 102 else 0

theorem getD_drop (l : List UInt8) (i k : Nat) : (l.drop i).getD k 0 = l.getD (i + k) 0 := by
  simp [List.getD_eq_getElem?_getD]

theorem get!_getD (s : ByteArray) (k : Nat) : s.get! k = s.data.toList.getD k 0 := by
  show s.data[k]! = _
  simp [List.getD_eq_getElem?_getD, getElem!_def]
  rfl

theorem decode_drop (s : ByteArray) (i : Nat) : Utf8.decode s i = decodeL (s.data.toList.drop i) := by
  rw [decode_at, decodeL_N, getD_drop, getD_drop, getD_drop, getD_drop, get!_getD, get!_getD, get!_getD, get!_getD, List.length_drop, ← size_eq]
  rfl

theorem decN_sign (n b0 b1 b2 b3 : Nat) (hn : 1 ≤ n) (h0 : 128 ≤ b0) :
    let d := decodeN n b0 b1 b2 b3
    128 ≤ d.1 ∧ 1 ≤ d.2 ∧ d.2 ≤ n ∧ d.2 ≤ 4 ∧ (1 < d.2 → 128 ≤ b1) ∧ (2 < d.2 → 128 ≤ b2) ∧ (3 < d.2 → 128 ≤ b3) := by
  unfold decodeN
  repeat' split
  all_goals simp only
  all_goals (repeat' apply And.intro)
  all_goals omega

theorem decN_fffd_back (n b3 : Nat) (hn : 2 < n) : decodeN n 239 191 189 b3 = (65533, 3) := by
  unfold decodeN
  simp [show 1 < n by omega, hn]

theorem decN_fffd_one (n b0 b1 b2 b3 : Nat) (hn : 1 ≤ n) (h0 : 128 ≤ b0) (k0 : b0 < 256) (k1 : b1 < 256) (k2 : b2 < 256) (k3 : b3 < 256) (hc : ¬ (2 < n ∧ b0 = 239 ∧ b1 = 191 ∧ b2 = 189)) (hd : (decodeN n b0 b1 b2 b3).1 = 65533) : (decodeN n b0 b1 b2 b3).2 = 1 := by
  revert hd
  unfold decodeN
  repeat' split
  all_goals intro hd
  all_goals (try rfl)
  all_goals (exfalso; simp only at hd; omega)

theorem decN_fffd (n b0 b1 b2 b3 : Nat) (hn : 1 ≤ n) (h0 : 128 ≤ b0) (k0 : b0 < 256) (k1 : b1 < 256) (k2 : b2 < 256) (k3 : b3 < 256) (hd : (decodeN n b0 b1 b2 b3).1 = 65533) :
    (2 < n ∧ b0 = 239 ∧ b1 = 191 ∧ b2 = 189 ∧ (decodeN n b0 b1 b2 b3).2 = 3) ∨ (¬ (2 < n ∧ b0 = 239 ∧ b1 = 191 ∧ b2 = 189) ∧ (decodeN n b0 b1 b2 b3).2 = 1) := by
  by_cases c : 2 < n ∧ b0 = 239 ∧ b1 = 191 ∧ b2 = 189
  · obtain ⟨c1, rfl, rfl, rfl⟩ := c
    exact .inl ⟨c1, rfl, rfl, rfl, by rw [decN_fffd_back n b3 c1]⟩
  · exact .inr ⟨c, decN_fffd_one n b0 b1 b2 b3 hn h0 k0 k1 k2 k3 c hd⟩

theorem pre3 (l : List UInt8) : Lib.hasPrefix l [239, 191, 189] = true ↔ 2 < l.length ∧ (l.getD 0 0).toNat = 239 ∧ (l.getD 1 0).toNat = 191 ∧ (l.getD 2 0).toNat = 189 := by
  unfold Lib.hasPrefix
  match l with
  | [] => simp
  | [a] => simp [List.isPrefixOf]
  | [a, b] => simp [List.isPrefixOf]
  | a :: b :: c :: t =>
    simp [List.isPrefixOf, ← UInt8.toNat_inj]
    constructor
    · rintro ⟨h1, h2, h3⟩; exact ⟨h1.symm, h2.symm, h3.symm⟩
    · rintro ⟨h1, h2, h3⟩; exact ⟨h1.symm, h2.symm, h3.symm⟩

/-- a sign that begins with a byte from 128 on -/
theorem sign_high (l : List UInt8) (h : l ≠ []) (h0 : 128 ≤ (l.getD 0 0).toNat) :
    128 ≤ (decodeL l).1 ∧ 1 ≤ (decodeL l).2 ∧ (decodeL l).2 ≤ l.length ∧ 0 ∉ l.take (decodeL l).2 ∧
    ((decodeL l).1 = 65533 → (Lib.hasPrefix l [239, 191, 189] = true ∧ (decodeL l).2 = 3) ∨ (Lib.hasPrefix l [239, 191, 189] = false ∧ (decodeL l).2 = 1)) := by
  have hl := List.length_pos_iff.2 h
  have k : ∀ j, (l.getD j 0).toNat < 256 := fun j => (l.getD j 0).toNat_lt
  obtain ⟨a1, a2, a3, a4, a5, a6, a7⟩ := decN_sign l.length (l.getD 0 0).toNat (l.getD 1 0).toNat (l.getD 2 0).toNat (l.getD 3 0).toNat hl h0
  have a8 := decN_fffd l.length (l.getD 0 0).toNat (l.getD 1 0).toNat (l.getD 2 0).toNat (l.getD 3 0).toNat hl h0 (k 0) (k 1) (k 2) (k 3)
  rw [← decodeL_N] at *
  refine ⟨a1, a2, a3, ?_, fun h => ?_⟩
  · intro hm
    obtain ⟨j, hj⟩ := List.mem_iff_getElem?.1 hm
    rw [List.getElem?_take] at hj
    split at hj
    · rename_i hjn
      have hg : l.getD j 0 = 0 := by rw [List.getD_eq_getElem?_getD, hj]; rfl
      have : (l.getD j 0).toNat = 0 := by rw [hg]; rfl
      have : j = 0 ∨ j = 1 ∨ j = 2 ∨ j = 3 := by omega
      rcases this with rfl | rfl | rfl | rfl
      · omega
      · have := a5 hjn; omega
      · have := a6 hjn; omega
      · have := a7 hjn; omega
    · simp at hj
  · rcases a8 h with ⟨b1, b2, b3, b4, b5⟩ | ⟨b1, b2⟩
    · exact .inl ⟨(pre3 l).2 ⟨b1, b2, b3, b4⟩, b5⟩
    · exact .inr ⟨by rw [Bool.eq_false_iff]; exact fun e => b1 ((pre3 l).1 e), b2⟩

/-- how far a look has come -/
def Ck (L : List UInt8) (i : Nat) (e : Int) : Prop := 0 ∉ L.take i ∧ ((e = 0 ∧ validD L = validD (L.drop i)) ∨ (e = 102 ∧ validD L = false))

theorem Ck.start (L : List UInt8) : Ck L 0 0 := ⟨by simp, .inl ⟨rfl, by simp⟩⟩

theorem take_more (L : List UInt8) (i n : Nat) (h1 : 0 ∉ L.take i) (h2 : 0 ∉ (L.drop i).take n) : 0 ∉ L.take (i + n) := by
  rw [List.take_add]
  simp [h1, h2]

theorem Ck.good {L : List UInt8} {i : Nat} {e : Int} (h : Ck L i e) (hi : i < L.length) (h0 : 0 ∉ (L.drop i).take (decodeL (L.drop i)).2) (hg : ¬ ((decodeL (L.drop i)).1 = 65533 ∧ (decodeL (L.drop i)).2 = 1)) : Ck L (i + (decodeL (L.drop i)).2) e := by
  refine ⟨take_more L i _ h.1 h0, ?_⟩
  rcases h.2 with ⟨e1, e2⟩ | ⟨e1, e2⟩
  · refine .inl ⟨e1, ?_⟩
    rw [e2, validD_step (L.drop i) (by intro e; have := congrArg List.length e; simp at this; omega), if_neg hg, List.drop_drop]
  · exact .inr ⟨e1, e2⟩

theorem Ck.bad {L : List UInt8} {i : Nat} {e : Int} (h : Ck L i e) (hi : i < L.length) (h0 : 0 ∉ (L.drop i).take (decodeL (L.drop i)).2) (hg : (decodeL (L.drop i)).1 = 65533 ∧ (decodeL (L.drop i)).2 = 1) : Ck L (i + (decodeL (L.drop i)).2) 102 := by
  refine ⟨take_more L i _ h.1 h0, .inr ⟨rfl, ?_⟩⟩
  rcases h.2 with ⟨e1, e2⟩ | ⟨e1, e2⟩
  · rw [e2, validD_step (L.drop i) (by intro e; have := congrArg List.length e; simp at this; omega), if_pos hg]
  · exact e2

theorem Ck.fin {L : List UInt8} {i : Nat} {e : Int} (h : Ck L i e) (hi : ¬ i < L.length) : chk L = e := by
  have h1 := h.1
  rw [List.take_of_length_le (by omega)] at h1
  unfold chk
  rw [if_neg h1]
  rcases h.2 with ⟨e1, e2⟩ | ⟨e1, e2⟩
  · rw [List.drop_of_length_le (by omega), validD_nil] at e2
    rw [e2, e1]; simp
  · rw [e2, e1]; simp

theorem chk_nul {L : List UInt8} {i : Nat} (hi : i < L.length) (h : L[i] = 0) : chk L = 101 := by
  unfold chk
  rw [if_pos]
  rw [← h]; exact List.getElem_mem hi

end Go.Proofs.YtpgiibpalmhhlaaGreatDoor
