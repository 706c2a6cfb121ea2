/-
  Plain: fields of octal digits of one width stand in the order of their numbers.
-/
import Derived.Test.YtmholjjicklnhabDoorStr
namespace Go.Proofs.YtmholjjicklnhabDoor

def u8s (ns : List Int) : List UInt8 := ns.map fun n => UInt8.ofNat n.toNat

theorem foldl_push (ns : List Int) (s : ByteArray) : (ns.foldl (fun r n => r.push (UInt8.ofNat n.toNat)) s).data.toList = s.data.toList ++ u8s ns := by
  induction ns generalizing s with
  | nil => simp [u8s]
  | cons z r ih => rw [List.foldl_cons, ih]; simp [u8s, ByteArray.push]

theorem strOf_toList (ns : List Int) : (strOf ns).toList = u8s ns := by
  rw [ByteArray.toList_eq, strOf, foldl_push]; simp

theorem less_snoc (x y : List UInt8) (c d : UInt8) (h : x.length = y.length) : Op.bytesLess (x ++ [c]) (y ++ [d]) = (Op.bytesLess x y || (x == y && decide (c < d))) := by
  induction x generalizing y with
  | nil =>
    cases y with
    | nil => simp [Op.bytesLess]
    | cons b y => simp at h
  | cons a x ih =>
    cases y with
    | nil => simp at h
    | cons b y =>
      simp only [List.cons_append, Op.bytesLess]
      rw [ih y (by simpa using h)]
      by_cases h1 : a < b
      · simp [h1]
      · by_cases h2 : a = b
        · subst h2; simp
        · have h3 : (a == b) = false := by simpa using h2
          simp [h1, h3]

theorem u8_lt (x y : Int) (hx0 : 0 ≤ x) (hx1 : x ≤ 255) (hy0 : 0 ≤ y) (hy1 : y ≤ 255) : (UInt8.ofNat x.toNat < UInt8.ofNat y.toNat ↔ x < y) := by
  rw [UInt8.lt_iff_toNat_lt]
  simp only [UInt8.toNat_ofNat']
  omega

theorem u8_eq (x y : Int) (hx0 : 0 ≤ x) (hx1 : x ≤ 255) (hy0 : 0 ≤ y) (hy1 : y ≤ 255) : (UInt8.ofNat x.toNat = UInt8.ofNat y.toNat ↔ x = y) := by
  rw [← UInt8.toNat_inj]
  simp only [UInt8.toNat_ofNat']
  omega

theorem u8s_octs (k : Nat) : ∀ a b : Int, 0 ≤ a → a < 8 ^ k → 0 ≤ b → b < 8 ^ k →
    Op.bytesLess (u8s (octs a k)) (u8s (octs b k)) = decide (a < b) ∧ (u8s (octs a k) == u8s (octs b k)) = decide (a = b) := by
  induction k with
  | zero =>
    intro a b h1 h2 h3 h4
    have : a = 0 := by simp at h2; omega
    have : b = 0 := by simp at h4; omega
    subst a b; decide
  | succ k ih =>
    intro a b h1 h2 h3 h4
    rw [Int.pow_succ] at h2 h4
    obtain ⟨i1, i2⟩ := ih (a / 8) (b / 8) (by omega) (by omega) (by omega) (by omega)
    have l := u8_lt (48 + a % 8) (48 + b % 8) (by omega) (by omega) (by omega) (by omega)
    have q := u8_eq (48 + a % 8) (48 + b % 8) (by omega) (by omega) (by omega) (by omega)
    have e : ∀ n : Int, u8s (octs n (k + 1)) = u8s (octs (n / 8) k) ++ [UInt8.ofNat (48 + n % 8).toNat] := fun n => by simp [octs, u8s]
    have hl : (u8s (octs (a / 8) k)).length = (u8s (octs (b / 8) k)).length := by simp [u8s, octs_length]
    rw [e, e, less_snoc _ _ _ _ hl, i1, i2]
    constructor
    · rw [Bool.eq_iff_iff]; simp [l]; omega
    · have : (u8s (octs (a / 8) k) ++ [UInt8.ofNat (48 + a % 8).toNat] = u8s (octs (b / 8) k) ++ [UInt8.ofNat (48 + b % 8).toNat]) ↔ (u8s (octs (a / 8) k) = u8s (octs (b / 8) k) ∧ UInt8.ofNat (48 + a % 8).toNat = UInt8.ofNat (48 + b % 8).toNat) := by
        constructor
        · intro h
          have := List.append_inj h hl
          simpa using this
        · rintro ⟨h, g⟩; rw [h, g]
      have i3 : (u8s (octs (a / 8) k) = u8s (octs (b / 8) k)) ↔ a / 8 = b / 8 := by
        have := i2; rw [Bool.eq_iff_iff] at this; simpa using this
      rw [Bool.eq_iff_iff]
      simp only [beq_iff_eq, decide_eq_true_eq]
      rw [this, i3, q]; omega

theorem field_less (a b : Int) (k : Nat) (h1 : 0 ≤ a) (h2 : a < 8 ^ k) (h3 : 0 ≤ b) (h4 : b < 8 ^ k) :
    Op.bytesLess (strOf (octs a k ++ [0])).toList (strOf (octs b k ++ [0])).toList = decide (a < b) := by
  have e : ∀ n : Int, u8s (octs n k ++ [0]) = u8s (octs n k) ++ [0] := fun n => by simp [u8s]
  rw [strOf_toList, strOf_toList, e, e, less_snoc _ _ _ _ (by simp [u8s, octs_length]), (u8s_octs k a b h1 h2 h3 h4).1]
  simp

end Go.Proofs.YtmholjjicklnhabDoor
