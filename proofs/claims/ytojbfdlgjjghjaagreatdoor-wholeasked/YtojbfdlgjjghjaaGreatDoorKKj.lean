/-
  Plain: numbers and their spellings; words and blanks.
-/
import Derived.Test.YtojbfdlgjjghjaaGreatDoorKKi
namespace Go.Proofs.YtojbfdlgjjghjaaGreatDoor.K
open Go.RowKit
open Go.Lib hiding intOf
set_option linter.unusedVariables false
set_option linter.unusedSimpArgs false

theorem dig_range : ∀ (u : Nat), ∀ x ∈ Lib.decDigits u, 48 ≤ x.toNat ∧ x.toNat ≤ 57 := by
  intro u
  induction u using Nat.strongRecOn with
  | _ u ih =>
    intro x hx
    rw [Lib.decDigits] at hx
    split at hx
    · simp only [List.mem_singleton] at hx
      subst hx
      simp
      omega
    · simp only [List.mem_append, List.mem_singleton] at hx
      rcases hx with hx | hx
      · exact ih (u / 10) (by omega) x hx
      · subst hx
        simp
        omega

theorem itoa_nat (n : Nat) : Lib.itoa (n : Int) = Lib.decDigits n := by
  unfold Lib.itoa
  rw [if_neg (by omega)]
  simp

theorem dec_ne (u : Nat) : Lib.decDigits u ≠ [] := by
  rw [Lib.decDigits]
  split <;> simp

/-- digits' value -/
def dv (a : Nat) (l : List UInt8) : Nat := l.foldl (fun a x => 10 * a + (x.toNat - 48)) a

theorem dv_ge : ∀ (l : List UInt8) (a : Nat), a ≤ dv a l
  | [], a => Nat.le_refl _
  | x :: l, a => by
    have := dv_ge l (10 * a + (x.toNat - 48))
    show a ≤ dv (10 * a + (x.toNat - 48)) l
    omega

theorem pu_bad : ∀ (l : List UInt8) (a : Nat), (∃ x ∈ l, x.toNat < 48 ∨ 57 < x.toNat) → ∀ u, ¬ Lib.parseUintM 18446744073709551615 a l = .ok u
  | [], a, h, u => by obtain ⟨x, hx, _⟩ := h; cases hx
  | y :: l, a, h, u => by
    unfold Lib.parseUintM
    split
    · rename_i hy
      split
      · simp
      · split
        · simp
        · refine pu_bad l _ ?_ u
          obtain ⟨x, hx, hb⟩ := h
          rcases List.mem_cons.1 hx with rfl | hx
          · omega
          · exact ⟨x, hx, hb⟩
    · simp

theorem pu_good : ∀ (l : List UInt8) (a : Nat), (∀ x ∈ l, 48 ≤ x.toNat ∧ x.toNat ≤ 57) → a ≤ 18446744073709551615 → (dv a l ≤ 18446744073709551615 → Lib.parseUintM 18446744073709551615 a l = .ok (dv a l)) ∧ (¬ dv a l ≤ 18446744073709551615 → ∀ u, ¬ Lib.parseUintM 18446744073709551615 a l = .ok u)
  | [], a, _, h => ⟨fun _ => rfl, fun hc => absurd h hc⟩
  | x :: l, a, hl, h => by
    have hx := hl x (by simp)
    have ed : dv a (x :: l) = dv (10 * a + (x.toNat - 48)) l := rfl
    have hge := dv_ge l (10 * a + (x.toNat - 48))
    rw [ed]
    unfold Lib.parseUintM
    rw [if_pos hx]
    by_cases c1 : 1844674407370955162 ≤ a
    · rw [if_pos c1]
      exact ⟨fun hc => by omega, fun _ u => by simp⟩
    · rw [if_neg c1]
      by_cases c2 : 18446744073709551615 < a * 10 + (x.toNat - 48)
      · rw [if_pos c2]
        exact ⟨fun hc => by omega, fun _ u => by simp⟩
      · rw [if_neg c2, show a * 10 + (x.toNat - 48) = 10 * a + (x.toNat - 48) by omega]
        exact pu_good l _ (fun y hy => hl y (by simp [hy])) (by omega)

theorem dv_snoc (l : List UInt8) (a : Nat) (x : UInt8) : dv a (l ++ [x]) = 10 * dv a l + (x.toNat - 48) := by
  unfold dv
  rw [List.foldl_append]
  rfl

theorem dv_pos : ∀ (l : List UInt8) (x : UInt8), 49 ≤ x.toNat → 1 ≤ dv 0 (x :: l) := by
  intro l x h
  have := dv_ge l (10 * 0 + (x.toNat - 48))
  show 1 ≤ dv (10 * 0 + (x.toNat - 48)) l
  omega

theorem byte_of (x : UInt8) (h : 48 ≤ x.toNat ∧ x.toNat ≤ 57) (n : Nat) (hn : n = x.toNat) : UInt8.ofNat n = x := by
  subst hn
  simp

/-- a number has one spelling -/
theorem dec_of_dv (x : UInt8) (h0 : 49 ≤ x.toNat) : ∀ (k : Nat) (l : List UInt8), l.length = k → (∀ y ∈ x :: l, 48 ≤ y.toNat ∧ y.toNat ≤ 57) → Lib.decDigits (dv 0 (x :: l)) = x :: l := by
  intro k
  induction k with
  | zero =>
    intro l hl hd
    obtain rfl := List.eq_nil_of_length_eq_zero hl
    have hx := hd x (by simp)
    have e : dv 0 [x] = x.toNat - 48 := by simp [dv]
    rw [e, Lib.decDigits, dif_pos (by omega), byte_of x hx _ (by omega)]
  | succ k ih =>
    intro l hl hd
    obtain ⟨l', y, rfl⟩ : ∃ l' y, l = l' ++ [y] := ⟨l.dropLast, l.getLast (by intro e; simp [e] at hl), (List.dropLast_concat_getLast _).symm⟩
    have hy := hd y (by simp)
    have e : dv 0 (x :: (l' ++ [y])) = 10 * dv 0 (x :: l') + (y.toNat - 48) := dv_snoc (x :: l') 0 y
    have hp := dv_pos l' x h0
    rw [e, Lib.decDigits, dif_neg (by omega), show (10 * dv 0 (x :: l') + (y.toNat - 48)) / 10 = dv 0 (x :: l') by omega, ih l' (by simp at hl; omega) (fun z hz => hd z (by simp at hz ⊢; rcases hz with h | h <;> simp [h])), byte_of y hy _ (by omega)]
    simp

theorem dec_head (u : Nat) : (Lib.decDigits u).head? = some 48 → u = 0 := by
  induction u using Nat.strongRecOn with
  | _ u ih =>
    intro h
    rw [Lib.decDigits] at h
    split at h
    · rename_i hu
      simp at h
      have := congrArg UInt8.toNat h
      simp at this
      omega
    · rename_i hu
      have hne := dec_ne (u / 10)
      rw [List.head?_append] at h
      cases hq : (Lib.decDigits (u / 10)).head? with
      | none => exact absurd (List.head?_eq_none_iff.1 hq) hne
      | some z =>
        rw [hq] at h
        simp at h
        subst h
        have := ih (u / 10) (by omega) hq
        omega

theorem dec_len19 (u : Nat) (h : u ≤ 9223372036854775808) : (Lib.decDigits u).length ≤ 19 := by
  rw [Lib.decDigits_length]
  have := nDigits_mono u 9223372036854775808 h
  have h2 : Lib.nDigits 9223372036854775808 = 19 := Lib.nDigits_unique 18 _ (by decide) (by decide)
  omega

theorem num_eq (v : Int) (s : ByteArray) : num v = s ↔ Lib.itoa v = s.data.toList := by
  constructor
  · intro h; rw [← h]; simp [num]
  · intro h
    unfold num
    rw [h]

theorem itoa_neg' (u : Nat) (h : 1 ≤ u) : Lib.itoa (-(u : Int)) = 45 :: Lib.decDigits u := by
  unfold Lib.itoa
  rw [if_pos (by omega)]
  simp

/-- what parsing a list of digits gives -/
theorem pub_digits (d : List UInt8) (hd : ∀ x ∈ d, 48 ≤ x.toNat ∧ x.toNat ≤ 57) (hne : d ≠ []) (u : Nat) (h : Lib.parseUintB 64 d = .ok u) : u = dv 0 d ∧ dv 0 d ≤ 18446744073709551615 := by
  unfold Lib.parseUintB at h
  rw [if_neg hne, show (2 : Nat) ^ 64 - 1 = 18446744073709551615 by decide] at h
  have hg := pu_good d 0 hd (by omega)
  by_cases c : dv 0 d ≤ 18446744073709551615
  · rw [hg.1 c] at h
    cases h
    exact ⟨rfl, c⟩
  · exact absurd h (hg.2 c u)

theorem pub_ok (d : List UInt8) (hd : ∀ x ∈ d, 48 ≤ x.toNat ∧ x.toNat ≤ 57) (hne : d ≠ []) (c : dv 0 d ≤ 18446744073709551615) : Lib.parseUintB 64 d = .ok (dv 0 d) := by
  unfold Lib.parseUintB
  rw [if_neg hne, show (2 : Nat) ^ 64 - 1 = 18446744073709551615 by decide]
  exact (pu_good d 0 hd (by omega)).1 c

theorem pub_bad (d : List UInt8) (hb : ∃ x ∈ d, x.toNat < 48 ∨ 57 < x.toNat) (u : Nat) : ¬ Lib.parseUintB 64 d = .ok u := by
  unfold Lib.parseUintB
  split
  · simp
  · rw [show (2 : Nat) ^ 64 - 1 = 18446744073709551615 by decide]
    exact pu_bad d 0 hb u

theorem digits_or (d : List UInt8) : (∀ x ∈ d, 48 ≤ x.toNat ∧ x.toNat ≤ 57) ∨ (∃ x ∈ d, x.toNat < 48 ∨ 57 < x.toNat) := by
  by_cases h : ∃ x ∈ d, x.toNat < 48 ∨ 57 < x.toNat
  · exact .inr h
  · left
    intro x hx
    by_cases c : 48 ≤ x.toNat ∧ x.toNat ≤ 57
    · exact c
    · exact absurd ⟨x, hx, by omega⟩ h

/-- nval over the list -/
def nl (l : List UInt8) : Option Int := match Lib.parseIntB 64 l with
  | .ok v => if Lib.itoa v = l then some v else none
  | _ => none

theorem nval_nl (s : ByteArray) : nval s = nl s.data.toList := by
  unfold nval nl
  cases Lib.parseIntB 64 s.data.toList with
  | ok v =>
    simp only
    by_cases h : num v = s
    · rw [if_pos h, if_pos ((num_eq v s).1 h)]
    · rw [if_neg h, if_neg (fun e => h ((num_eq v s).2 e))]
  | «syntax» => rfl
  | range => rfl

theorem p63 : (2 : Nat) ^ (64 - 1) = 9223372036854775808 := by decide

/-- nl at a text with a minus -/
theorem nl_minus (r : List UInt8) : nl (45 :: r) = match Lib.parseUintB 64 r with
    | .ok u => if u ≤ 9223372036854775808 ∧ Lib.itoa (-(u : Int)) = 45 :: r then some (-(u : Int)) else none
    | _ => none := by
  unfold nl Lib.parseIntB
  simp only
  rw [if_pos (by decide), p63]
  cases Lib.parseUintB 64 r with
  | ok u =>
    simp only
    rw [if_neg (by simp)]
    by_cases c : u ≤ 9223372036854775808
    · rw [if_neg (by simp; omega)]
      simp only [if_pos (show (45 : UInt8).toNat = 45 from rfl)]
      by_cases e : Lib.itoa (-(u : Int)) = 45 :: r
      · rw [if_pos e, if_pos ⟨c, e⟩]
      · rw [if_neg e, if_neg (fun h => e h.2)]
    · rw [if_pos ⟨rfl, by omega⟩, if_neg (fun h => c h.1)]
  | «syntax» => rfl
  | range => rfl

/-- nl at a text with no sign -/
theorem nl_plain (c : UInt8) (r : List UInt8) (h1 : ¬ c.toNat = 43) (h2 : ¬ c.toNat = 45) : nl (c :: r) = match Lib.parseUintB 64 (c :: r) with
    | .ok u => if u < 9223372036854775808 ∧ Lib.itoa (u : Int) = c :: r then some (u : Int) else none
    | _ => none := by
  unfold nl Lib.parseIntB
  simp only
  rw [if_neg (by omega), p63]
  cases Lib.parseUintB 64 (c :: r) with
  | ok u =>
    simp only
    by_cases q : u < 9223372036854775808
    · rw [if_neg (by omega), if_neg (by omega)]
      simp only [if_neg h2]
      by_cases e : Lib.itoa (u : Int) = c :: r
      · rw [if_pos e, if_pos ⟨q, e⟩]
      · rw [if_neg e, if_neg (fun h => e h.2)]
    · rw [if_pos ⟨h2, by omega⟩, if_neg (fun h => q h.1)]
  | «syntax» => rfl
  | range => rfl


theorem dv_dec (n : Nat) : dv 0 (Lib.decDigits n) = n := by
  induction n using Nat.strongRecOn with
  | _ n ih =>
    rw [Lib.decDigits]
    split
    · rename_i h
      simp [dv]
      omega
    · rename_i h
      rw [dv_snoc, ih (n / 10) (by omega), UInt8.toNat_ofNat']
      omega

/-- a number is read as it is written -/
theorem nval_num (n : Nat) (h : n ≤ 9223372036854775807) : nval (num n) = some (n : Int) := by
  rw [nval_nl]
  have e : (num n).data.toList = Lib.decDigits n := by unfold num; rw [itoa_nat]
  rw [e]
  have hr := dig_range n
  have hd := dv_dec n
  have hi := itoa_nat n
  have hne := dec_ne n
  generalize Lib.decDigits n = l at *
  cases l with
  | nil => exact absurd rfl hne
  | cons c r =>
    have hc := hr c (by simp)
    rw [nl_plain c r (by omega) (by omega), pub_ok _ hr hne (by rw [hd]; omega), hd]
    simp only
    rw [if_pos ⟨by omega, hi⟩]
theorem nval_spelt {s : ByteArray} {v : Int} (h : nval s = some v) : num v = s := by
  unfold nval at h
  split at h
  · rename_i v' hv
    split at h
    · rename_i hn
      cases h; exact hn
    · cases h
  · cases h
/-- a nought ahead of digits is no number -/
theorem nl_zero (c : UInt8) (r : List UInt8) : nl (48 :: c :: r) = none := by
  rw [nl_plain 48 (c :: r) (by decide) (by decide)]
  cases h : Lib.parseUintB 64 (48 :: c :: r) with
  | ok u =>
    simp only
    rw [if_neg]
    rintro ⟨_, e⟩
    rw [itoa_nat] at e
    have h0 := dec_head u (by rw [e]; rfl)
    subst h0
    have := congrArg List.length e
    rw [Lib.decDigits_one (by omega)] at this
    simp at this
  | «syntax» => rfl
  | range => rfl

theorem numP_num (n : Nat) (h : n ≤ 9223372036854775807) : numP (num n) = if 1048576 < (n : Int) then .inl 1 else .inr (n : Int) := by
  unfold numP
  rw [nval_num n h]
  simp only
  rw [if_neg (by omega)]
theorem numP_ok {s : ByteArray} {v : Int} (h : numP s = .inr v) : num v = s ∧ 0 ≤ v ∧ v ≤ 1048576 := by
  unfold numP at h
  split at h
  · cases h
  · rename_i v' hv
    split at h
    · cases h
    · split at h
      · cases h
      · cases h
        exact ⟨nval_spelt hv, by omega, by omega⟩

/-! ### words and blanks -/

/-- no blank in a text -/
def NB (t : ByteArray) : Prop := (32 : UInt8) ∉ t.data.toList
theorem num_nb (n : Nat) : NB (num n) := by
  unfold NB num
  rw [itoa_nat]
  intro h
  have := dig_range n 32 (by simpa using h)
  exact absurd this.1 (by decide)
theorem index_none (c : UInt8) : ∀ l : List UInt8, c ∉ l → Lib.indexByte l c = -1
  | [], _ => rfl
  | b :: l, h => by
    have h1 : ¬ b = c := fun e => h (by simp [e])
    have h2 := index_none c l (fun hc => h (by simp [hc]))
    unfold Lib.indexByte
    rw [h2]
    simp [h1]
theorem index_app (c : UInt8) (r : List UInt8) : ∀ l : List UInt8, c ∉ l → Lib.indexByte (l ++ c :: r) c = l.length
  | [], _ => by simp [Lib.indexByte]
  | b :: l, h => by
    have h1 : ¬ b = c := fun e => h (by simp [e])
    have h2 := index_app c r l (fun hc => h (by simp [hc]))
    rw [List.cons_append, Lib.indexByte, h2]
    have h3 : (b == c) = false := by simpa using h1
    have h4 : ((l.length : Int) == -1) = false := by simp
    rw [h3, h4]
    simp
theorem cut_no {t : ByteArray} (h : NB t) : cutW t = t ∧ cutR t = ⟨#[]⟩ := by
  have hb : bl t = -1 := index_none 32 _ h
  unfold cutW cutR
  rw [hb]
  exact ⟨rfl, rfl⟩
theorem cut_app {t : ByteArray} (h : NB t) (r : ByteArray) : cutW (t ++ (sps ++ r)) = t ∧ cutR (t ++ (sps ++ r)) = r := by
  have hb : bl (t ++ (sps ++ r)) = (t.size : Int) := by
    unfold bl
    have : (t ++ (sps ++ r)).data.toList = t.data.toList ++ 32 :: r.data.toList := by simp [ByteArray.data_append, sps]
    rw [this]
    exact index_app 32 _ _ h
  unfold cutW cutR
  rw [hb]
  rw [if_neg (by omega), if_neg (by omega)]
  have e1 : ((t.size : Int)).toNat = t.size := Int.toNat_natCast _
  rw [e1]
  have hs : t.size = t.data.size := rfl
  constructor
  · apply ByteArray.ext
    rw [ByteArray.data_extract, ByteArray.data_append, hs]
    simp
  · apply ByteArray.ext
    rw [ByteArray.data_extract, ByteArray.data_append, ByteArray.data_append]
    have e2 : (t ++ (sps ++ r)).size = t.data.size + (1 + r.data.size) := by
      rw [ByteArray.size_append, ByteArray.size_append]; rfl
    rw [e2, hs]
    apply Array.ext'
    simp [sps]
    have d1 : List.drop (t.size + 1) t.data.toList = [] := List.drop_eq_nil_of_le (show t.size ≤ t.size + 1 by omega)
    rw [d1, List.take_of_length_le (show r.data.toList.length ≤ r.size from Nat.le_refl _)]
    simp

theorem kind_wd (k : Nat) (h : 1 ≤ k ∧ k ≤ 11) : kindP (wd k) = k ∧ NB (wd k) := by
  unfold NB
  match k, h with
  | 1, _ | 2, _ | 3, _ | 4, _ | 5, _ | 6, _ | 7, _ | 8, _ | 9, _ | 10, _ | 11, _ => exact ⟨by kernel_rfl, by decide⟩
  | 0, h => exact absurd h.1 (by omega)
  | n + 12, h => exact absurd h.2 (by omega)

/-- what a line asks, where its first word is a kind's -/
theorem dec_word (k : Nat) (h : 1 ≤ k ∧ k ≤ 11) (r : ByteArray) (hs : (wd k ++ (sps ++ r)).size ≤ 16384) :
    decP (wd k ++ (sps ++ r)) = endP k (goP (flds k) ⟨k, 0, 0, 0, ⟨#[]⟩⟩ r) := by
  obtain ⟨h1, h2⟩ := kind_wd k h
  obtain ⟨c1, c2⟩ := cut_app h2 r
  unfold decP
  rw [if_neg (by omega), c1, c2, h1, if_neg (by omega)]
  rfl

theorem dec_path (k : Nat) (h : k = 5 ∨ k = 6 ∨ k = 7 ∨ k = 8) (n : Nat) (hn : n ≤ 1048576) (p : ByteArray) (hs : (wd k ++ (sps ++ (num n ++ (sps ++ p)))).size ≤ 16384) :
    decP (wd k ++ (sps ++ (num n ++ (sps ++ p)))) = .inr (⟨k, n, 0, 0, p⟩, []) := by
  rw [dec_word k (by omega) _ hs]
  have hf : flds (k : Int) = [1] := by unfold flds; rw [if_pos (by omega)]
  obtain ⟨c1, c2⟩ := cut_app (num_nb n) p
  rw [hf, goP, c1, c2, numP_num n (by omega), if_neg (by omega)]
  simp only [goP, endP, lastP, if_pos h]
  rfl

end Go.Proofs.YtojbfdlgjjghjaaGreatDoor.K
