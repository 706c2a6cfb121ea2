/-
  Plain: the document's own reading of octal digits is that of 'dgo'.
-/
import Derived.Test.YtmholjjicklnhabDoorBig
namespace Go.Proofs.YtmholjjicklnhabDoor

def val8 : List Int → Int → Int
  | [], x => x
  | b :: r, x => val8 r (8 * x + (b - 48))

def isDig (b : Int) : Prop := 48 ≤ b ∧ b ≤ 55

theorem val8_append (x y : List Int) (a : Int) : val8 (x ++ y) a = val8 y (val8 x a) := by
  induction x generalizing a with
  | nil => rfl
  | cons b r ih => simp [val8, ih]

theorem val8_bounds (r : List Int) (hr : ∀ z ∈ r, isDig z) (y : Int) : y * 8 ^ r.length ≤ val8 r y ∧ val8 r y ≤ y * 8 ^ r.length + 8 ^ r.length - 1 := by
  induction r generalizing y with
  | nil => simp [val8]
  | cons b r ih =>
    have hb := hr b (by simp)
    unfold isDig at hb
    have := ih (fun z hz => hr z (by simp [hz])) (8 * y + (b - 48))
    simp only [val8, List.length_cons, Int.pow_succ]
    have hp : (0 : Int) < 8 ^ r.length := Int.pow_pos (by decide)
    generalize (8 : Int) ^ r.length = P at *
    have e : (8 * y + (b - 48)) * P = 8 * (y * P) + (b - 48) * P := by rw [Int.add_mul, Int.mul_assoc]
    have e2 : y * (P * 8) = 8 * (y * P) := by rw [← Int.mul_assoc, Int.mul_comm]
    have b0 : 0 ≤ (b - 48) * P := Int.mul_nonneg (by omega) (Int.le_of_lt hp)
    have b1 : (b - 48) * P ≤ 7 * P := Int.mul_le_mul_of_nonneg_right (by omega) (Int.le_of_lt hp)
    rw [e] at this
    rw [e2]
    omega

theorem val8_high (r : List Int) (hr : ∀ z ∈ r, isDig z) (y : Int) (h : 9223372036854775807 < y) : 9223372036854775807 < val8 r y := by
  induction r generalizing y with
  | nil => exact h
  | cons b r ih =>
    have hb := hr b (by simp)
    unfold isDig at hb
    exact ih (fun z hz => hr z (by simp [hz])) _ (by omega)

theorem dgo_digits (dg : List Int) (hd : ∀ z ∈ dg, isDig z) (rs : List Int) (x p : Int) (h0 : 0 ≤ x) (h1 : x ≤ 9223372036854775807) (hp : ¬ p = 2) :
    dgo (dg ++ rs) x p = if val8 dg x ≤ 9223372036854775807 then dgo rs (val8 dg x) (if dg = [] then p else 1) else none := by
  induction dg generalizing x p with
  | nil => simp [val8, h1]
  | cons b r ih =>
    have hb := hd b (by simp)
    have hr : ∀ z ∈ r, isDig z := fun z hz => hd z (by simp [hz])
    unfold isDig at hb
    rw [show val8 (b :: r) x = val8 r (8 * x + (b - 48)) from rfl, List.cons_append, dgo, dstep]
    rw [if_neg (by omega), if_pos ⟨hb, hp⟩]
    by_cases c : 1152921504606846975 < x
    · have := val8_high r hr (8 * x + (b - 48)) (by omega)
      rw [if_pos c, if_neg (by omega)]
    · rw [if_neg c]
      simp only []
      rw [ih hr (8 * x + (b - 48)) 1 (by omega) (by omega) (by decide)]
      simp

theorem dgo_rest (zs : List Int) : ∀ (l k : Nat) (N p : Int), zs.length - k = l → (∀ j, k ≤ j → j < zs.length → nth zs j = 0 ∨ nth zs j = 32) → dgo (zs.drop k) N p = some N := by
  intro l
  induction l with
  | zero => intro k N p hl _; rw [List.drop_of_length_le (by omega)]; rfl
  | succ l ih =>
    intro k N p hl h
    have hk := h k (Nat.le_refl _) (by omega)
    rw [drop_nth zs k (by omega), dgo, dstep]
    by_cases c : nth zs k = 32 ∧ p = 0
    · rw [if_pos c]
      exact ih (k + 1) N 0 (by omega) (fun j h1 h2 => h j (by omega) h2)
    · rw [if_neg c, if_neg (by omega), if_pos (by omega)]
      exact ih (k + 1) N 2 (by omega) (fun j h1 h2 => h j (by omega) h2)

theorem dgo_rest_bad (zs : List Int) (i : Nat) (hi : i < zs.length) (hb : nth zs i ≠ 0 ∧ nth zs i ≠ 32) : ∀ (l k : Nat) (N : Int), i - k = l → k ≤ i → (∀ j, k ≤ j → j < i → nth zs j = 0 ∨ nth zs j = 32) → dgo (zs.drop k) N 2 = none := by
  intro l
  induction l with
  | zero =>
    intro k N hl hk _
    obtain rfl : k = i := by omega
    rw [drop_nth zs k hi, dgo, dstep, if_neg (by omega), if_neg (by omega), if_neg (by omega)]
  | succ l ih =>
    intro k N hl hk h
    have hk' := h k (Nat.le_refl _) (by omega)
    rw [drop_nth zs k (by omega), dgo, dstep, if_neg (by omega), if_neg (by omega), if_pos (by omega)]
    exact ih (k + 1) N (by omega) (by omega) (fun j h1 h2 => h j (by omega) h2)

/-- The digits from a on, up to b. -/
def seg (zs : List Int) (a b : Nat) : List Int := (zs.drop a).take (b - a)

theorem seg_mem (zs : List Int) (a b : Nat) (hab : b ≤ zs.length) (P : Int → Prop) (h : ∀ i, a ≤ i → i < b → P (nth zs i)) : ∀ z ∈ seg zs a b, P z := by
  intro z hz
  obtain ⟨i, hi, rfl⟩ := List.getElem_of_mem hz
  simp only [seg, List.length_take, List.length_drop] at hi
  have := h (a + i) (by omega) (by omega)
  simp only [nth, show a + i < zs.length by omega, List.getElem?_eq_getElem, Option.getD_some] at this
  simpa [seg] using this

theorem seg_split (zs : List Int) (a b : Nat) (hab : a ≤ b) : zs.drop a = seg zs a b ++ zs.drop b := by
  have := List.take_append_drop (b - a) (zs.drop a)
  rw [List.drop_drop, show a + (b - a) = b by omega] at this
  exact this.symm

theorem seg_nil (zs : List Int) (a b : Nat) (hab : a ≤ b) (hb : b ≤ zs.length) (h : seg zs a b = []) : a = b := by
  have := congrArg List.length h
  simp only [seg, List.length_take, List.length_drop, List.length_nil] at this
  omega

theorem seg_length (zs : List Int) (a b : Nat) (hb : b ≤ zs.length) (hab : a ≤ b) : (seg zs a b).length = b - a := by
  simp only [seg, List.length_take, List.length_drop]; omega

theorem seg_cons (zs : List Int) (a b : Nat) (hab : a < b) (hb : b ≤ zs.length) : seg zs a b = nth zs a :: seg zs (a + 1) b := by
  unfold seg
  rw [drop_nth zs a (by omega), show b - a = (b - (a + 1)) + 1 by omega, List.take_succ_cons]

theorem seg_snoc (zs : List Int) (a b : Nat) (hab : a ≤ b) (hb : b < zs.length) : seg zs a (b + 1) = seg zs a b ++ [nth zs b] := by
  unfold seg
  rw [show b + 1 - a = (b - a) + 1 by omega, List.take_succ_eq_append_getElem (by simp; omega)]
  simp only [List.getElem_drop, nth]
  rw [List.getElem?_eq_getElem hb]
  simp [show a + (b - a) = b by omega]

/-- What has been read once all is looked at. -/
theorem read_ok (zs : List Int) (f t : Nat) (h0 : dgo zs 0 0 = dgo (zs.drop f) 0 0) (hft : f ≤ t) (ht : t ≤ zs.length) (hd : ∀ i, f ≤ i → i < t → isDig (nth zs i))
    (hr : ∀ j, t ≤ j → j < zs.length → nth zs j = 0 ∨ nth zs j = 32) :
    dgo zs 0 0 = if val8 (seg zs f t) 0 ≤ 9223372036854775807 then some (val8 (seg zs f t) 0) else none := by
  rw [h0, seg_split zs f t hft, dgo_digits (seg zs f t) (seg_mem zs f t ht isDig hd) _ 0 0 (by omega) (by omega) (by decide), dgo_rest zs _ t _ _ rfl hr]

theorem read_bad (zs : List Int) (f t i : Nat) (h0 : dgo zs 0 0 = dgo (zs.drop f) 0 0) (hft : f ≤ t) (ht : t ≤ zs.length) (hd : ∀ i, f ≤ i → i < t → isDig (nth zs i))
    (s1 : f < zs.length → nth zs f ≠ 32) (s2 : t < zs.length → ¬ isDig (nth zs t)) (hti : t ≤ i) (hi : i < zs.length) (hb : nth zs i ≠ 0 ∧ nth zs i ≠ 32)
    (hr : ∀ j, t ≤ j → j < i → nth zs j = 0 ∨ nth zs j = 32) : dgo zs 0 0 = none := by
  rw [h0, seg_split zs f t hft, dgo_digits (seg zs f t) (seg_mem zs f t ht isDig hd) _ 0 0 (by omega) (by omega) (by decide)]
  by_cases c : val8 (seg zs f t) 0 ≤ 9223372036854775807
  · rw [if_pos c]
    have d2 := s2 (by omega)
    unfold isDig at d2
    have hp : ¬ (nth zs t = 32 ∧ (if seg zs f t = [] then (0 : Int) else 1) = 0) := by
      rintro ⟨h32, h⟩
      by_cases e : seg zs f t = []
      · have := seg_nil zs f t hft ht e
        subst this
        exact s1 (by omega) h32
      · rw [if_neg e] at h; omega
    generalize (if seg zs f t = [] then (0 : Int) else 1) = p at *
    rw [drop_nth zs t (by omega), dgo, dstep, if_neg hp, if_neg (by omega)]
    by_cases e : t = i
    · subst e; rw [if_neg (by omega)]
    · have := hr t (Nat.le_refl _) (by omega)
      rw [if_pos (by omega)]
      exact dgo_rest_bad zs i hi hb _ (t + 1) _ rfl (by omega) (fun j h1 h2 => hr j (by omega) h2)
  · rw [if_neg c]

theorem skip_nought (zs : List Int) (f t : Nat) (hft : f < t) (ht : t ≤ zs.length) (h : nth zs f = 48) : val8 (seg zs f t) 0 = val8 (seg zs (f + 1) t) 0 := by
  rw [seg_cons zs f t hft ht, h]; rfl

theorem too_long (zs : List Int) (f t : Nat) (ht : t ≤ zs.length) (hd : ∀ i, f ≤ i → i < t → isDig (nth zs i)) (h : 21 < t - f) (hn : nth zs f ≠ 48) : ¬ val8 (seg zs f t) 0 ≤ 9223372036854775807 := by
  have hf := hd f (Nat.le_refl _) (by omega)
  unfold isDig at hf
  rw [seg_cons zs f t (by omega) ht]
  have b := val8_bounds (seg zs (f + 1) t) (seg_mem zs (f + 1) t ht isDig (fun i h1 h2 => hd i (by omega) h2)) (nth zs f - 48)
  rw [seg_length zs (f + 1) t ht (by omega)] at b
  obtain ⟨m, hm⟩ : ∃ m, t - (f + 1) = m + 21 := ⟨t - f - 22, by omega⟩
  rw [hm, Int.pow_add, show (8 : Int) ^ 21 = 9223372036854775808 by decide] at b
  have hp : (0 : Int) < 8 ^ m := Int.pow_pos (by decide)
  simp only [val8, Int.mul_zero, Int.zero_add]
  generalize (8 : Int) ^ m = P at *
  have e : (nth zs f - 48) * (P * 9223372036854775808) = ((nth zs f - 48) * P) * 9223372036854775808 := by rw [← Int.mul_assoc]
  have : 1 * P ≤ (nth zs f - 48) * P := Int.mul_le_mul_of_nonneg_right (by omega) (Int.le_of_lt hp)
  rw [e] at b
  omega

theorem seg_bd (zs : List Int) (f t m : Nat) (ht : t ≤ zs.length) (hft : f ≤ t) (hd : ∀ i, f ≤ i → i < t → isDig (nth zs i)) (h : t - f ≤ m) : 0 ≤ val8 (seg zs f t) 0 ∧ val8 (seg zs f t) 0 < 8 ^ m := by
  have b := val8_bounds (seg zs f t) (seg_mem zs f t ht isDig hd) 0
  rw [seg_length zs f t ht hft] at b
  have hp : (8 : Int) ^ (t - f) ≤ 8 ^ m := by
    obtain ⟨d, rfl⟩ : ∃ d, m = (t - f) + d := ⟨m - (t - f), by omega⟩
    rw [Int.pow_add]
    have p1 : (0 : Int) < 8 ^ (t - f) := Int.pow_pos (by decide)
    have p2 : (0 : Int) < 8 ^ d := Int.pow_pos (by decide)
    have := Int.mul_le_mul_of_nonneg_left (show (1 : Int) ≤ 8 ^ d by omega) (Int.le_of_lt p1)
    omega
  omega

theorem seg_step (zs : List Int) (f i : Nat) (hfi : f ≤ i) (hi : i < zs.length) : val8 (seg zs f (i + 1)) 0 = 8 * val8 (seg zs f i) 0 + (nth zs i - 48) := by
  rw [seg_snoc zs f i hfi hi, val8_append]; rfl

end Go.Proofs.YtmholjjicklnhabDoor
