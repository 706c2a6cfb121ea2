/-
  Contract: the document's own Number; its answer is the program's.
-/
import Derived.Test.YtjnmmkohmfhnlabDoorRfx
namespace Go.Proofs.YtjnmmkohmfhnlabDoor
open Go.RowKit
set_option linter.unusedVariables false
set_option linter.unusedSimpArgs false

/-- digits taken below nought, one by one: nothing, if one is none or it leaves the 64 bits -/
def rgo : Int → List UInt8 → Option Int
  | n, [] => some n
  | n, x :: l => if x.toNat < 48 ∨ 57 < x.toNat then none else if 10 * n - ((x.toNat : Int) - 48) < -9223372036854775808 then none else rgo (10 * n - ((x.toNat : Int) - 48)) l

/-- the document's number of a text -/
def rnum (s : List UInt8) : Option Int :=
  let minus := s.head? = some 45
  let d := if minus then s.drop 1 else s
  if d = [] ∨ (d.head? = some 48 ∧ (1 < d.length ∨ minus)) ∨ 19 < d.length then none
  else match rgo 0 d with
    | none => none
    | some n => if minus then some n else if n = -9223372036854775808 then none else some (-n)

/-! ### plain: the same answers -/

theorem rgo_bad : ∀ (l : List UInt8) (n : Int), (∃ x ∈ l, x.toNat < 48 ∨ 57 < x.toNat) → rgo n l = none
  | [], n, h => by obtain ⟨x, hx, _⟩ := h; cases hx
  | y :: l, n, h => by
    unfold rgo
    split
    · rfl
    · rename_i hy
      split
      · rfl
      · refine rgo_bad l _ ?_
        obtain ⟨x, hx, hb⟩ := h
        rcases List.mem_cons.1 hx with rfl | hx
        · exact absurd hb hy
        · exact ⟨x, hx, hb⟩

/-- digits' value -/
def dv (a : Nat) (l : List UInt8) : Nat := l.foldl (fun a x => 10 * a + (x.toNat - 48)) a

theorem dv_ge : ∀ (l : List UInt8) (a : Nat), a ≤ dv a l
  | [], a => Nat.le_refl _
  | x :: l, a => by
    have := dv_ge l (10 * a + (x.toNat - 48))
    show a ≤ dv (10 * a + (x.toNat - 48)) l
    omega

theorem rgo_good : ∀ (l : List UInt8) (a : Nat), (∀ x ∈ l, 48 ≤ x.toNat ∧ x.toNat ≤ 57) → a ≤ 9223372036854775808 → rgo (-(a : Int)) l = if dv a l ≤ 9223372036854775808 then some (-(dv a l : Int)) else none
  | [], a, _, h => by
    show some (-(a : Int)) = if a ≤ 9223372036854775808 then some (-(a : Int)) else none
    rw [if_pos h]
  | x :: l, a, hl, h => by
    have hx := hl x (by simp)
    have e : (10 * -(a : Int) - ((x.toNat : Int) - 48)) = -((10 * a + (x.toNat - 48) : Nat) : Int) := by omega
    have ed : dv a (x :: l) = dv (10 * a + (x.toNat - 48)) l := rfl
    unfold rgo
    rw [if_neg (by omega), e, ed]
    split
    · rename_i hc
      have := dv_ge l (10 * a + (x.toNat - 48))
      rw [if_neg (by omega)]
    · rename_i hc
      exact rgo_good l _ (fun y hy => hl y (by simp [hy])) (by omega)

theorem pu_bad : ∀ (l : List UInt8) (a : Nat), (∃ x ∈ l, x.toNat < 48 ∨ 57 < x.toNat) → ∀ u, ¬ Lib.parseUintM 18446744073709551615 a l = .ok u
  | [], a, h, u => by obtain ⟨x, hx, _⟩ := h; cases hx
  | y :: l, a, h, u => by
    unfold Lib.parseUintM
    split
    · rename_i hy
      split
      · simp
      · split
        · simp
        · refine pu_bad l _ ?_ u
          obtain ⟨x, hx, hb⟩ := h
          rcases List.mem_cons.1 hx with rfl | hx
          · omega
          · exact ⟨x, hx, hb⟩
    · simp

theorem pu_good : ∀ (l : List UInt8) (a : Nat), (∀ x ∈ l, 48 ≤ x.toNat ∧ x.toNat ≤ 57) → a ≤ 18446744073709551615 → (dv a l ≤ 18446744073709551615 → Lib.parseUintM 18446744073709551615 a l = .ok (dv a l)) ∧ (¬ dv a l ≤ 18446744073709551615 → ∀ u, ¬ Lib.parseUintM 18446744073709551615 a l = .ok u)
  | [], a, _, h => ⟨fun _ => rfl, fun hc => absurd h hc⟩
  | x :: l, a, hl, h => by
    have hx := hl x (by simp)
    have ed : dv a (x :: l) = dv (10 * a + (x.toNat - 48)) l := rfl
    have hge := dv_ge l (10 * a + (x.toNat - 48))
    rw [ed]
    unfold Lib.parseUintM
    rw [if_pos hx]
    by_cases c1 : 1844674407370955162 ≤ a
    · rw [if_pos c1]
      exact ⟨fun hc => by omega, fun _ u => by simp⟩
    · rw [if_neg c1]
      by_cases c2 : 18446744073709551615 < a * 10 + (x.toNat - 48)
      · rw [if_pos c2]
        exact ⟨fun hc => by omega, fun _ u => by simp⟩
      · rw [if_neg c2, show a * 10 + (x.toNat - 48) = 10 * a + (x.toNat - 48) by omega]
        exact pu_good l _ (fun y hy => hl y (by simp [hy])) (by omega)

theorem dv_snoc (l : List UInt8) (a : Nat) (x : UInt8) : dv a (l ++ [x]) = 10 * dv a l + (x.toNat - 48) := by
  unfold dv
  rw [List.foldl_append]
  rfl

theorem dv_pos : ∀ (l : List UInt8) (x : UInt8), 49 ≤ x.toNat → 1 ≤ dv 0 (x :: l) := by
  intro l x h
  have := dv_ge l (10 * 0 + (x.toNat - 48))
  show 1 ≤ dv (10 * 0 + (x.toNat - 48)) l
  omega

theorem byte_of (x : UInt8) (h : 48 ≤ x.toNat ∧ x.toNat ≤ 57) (n : Nat) (hn : n = x.toNat) : UInt8.ofNat n = x := by
  subst hn
  simp

/-- a number has one spelling -/
theorem dec_of_dv (x : UInt8) (h0 : 49 ≤ x.toNat) : ∀ (k : Nat) (l : List UInt8), l.length = k → (∀ y ∈ x :: l, 48 ≤ y.toNat ∧ y.toNat ≤ 57) → Lib.decDigits (dv 0 (x :: l)) = x :: l := by
  intro k
  induction k with
  | zero =>
    intro l hl hd
    obtain rfl := List.eq_nil_of_length_eq_zero hl
    have hx := hd x (by simp)
    have e : dv 0 [x] = x.toNat - 48 := by simp [dv]
    rw [e, Lib.decDigits, dif_pos (by omega), byte_of x hx _ (by omega)]
  | succ k ih =>
    intro l hl hd
    obtain ⟨l', y, rfl⟩ : ∃ l' y, l = l' ++ [y] := ⟨l.dropLast, l.getLast (by intro e; simp [e] at hl), (List.dropLast_concat_getLast _).symm⟩
    have hy := hd y (by simp)
    have e : dv 0 (x :: (l' ++ [y])) = 10 * dv 0 (x :: l') + (y.toNat - 48) := dv_snoc (x :: l') 0 y
    have hp := dv_pos l' x h0
    rw [e, Lib.decDigits, dif_neg (by omega), show (10 * dv 0 (x :: l') + (y.toNat - 48)) / 10 = dv 0 (x :: l') by omega, ih l' (by simp at hl; omega) (fun z hz => hd z (by simp at hz ⊢; rcases hz with h | h <;> simp [h])), byte_of y hy _ (by omega)]
    simp

theorem dec_head (u : Nat) : (Lib.decDigits u).head? = some 48 → u = 0 := by
  induction u using Nat.strongRecOn with
  | _ u ih =>
    intro h
    rw [Lib.decDigits] at h
    split at h
    · rename_i hu
      simp at h
      have := congrArg UInt8.toNat h
      simp at this
      omega
    · rename_i hu
      have hne := dec_ne (u / 10)
      rw [List.head?_append] at h
      cases hq : (Lib.decDigits (u / 10)).head? with
      | none => exact absurd (List.head?_eq_none_iff.1 hq) hne
      | some z =>
        rw [hq] at h
        simp at h
        subst h
        have := ih (u / 10) (by omega) hq
        omega

theorem dec_len19 (u : Nat) (h : u ≤ 9223372036854775808) : (Lib.decDigits u).length ≤ 19 := by
  rw [Lib.decDigits_length]
  have := nDigits_mono u 9223372036854775808 h
  have h2 : Lib.nDigits 9223372036854775808 = 19 := Lib.nDigits_unique 18 _ (by decide) (by decide)
  omega

theorem num_eq (v : Int) (s : ByteArray) : num v = s ↔ Lib.itoa v = s.data.toList := by
  constructor
  · intro h; rw [← h]; simp [num]
  · intro h
    unfold num
    rw [h]

theorem itoa_neg' (u : Nat) (h : 1 ≤ u) : Lib.itoa (-(u : Int)) = 45 :: Lib.decDigits u := by
  unfold Lib.itoa
  rw [if_pos (by omega)]
  simp

/-- what parsing a list of digits gives -/
theorem pub_digits (d : List UInt8) (hd : ∀ x ∈ d, 48 ≤ x.toNat ∧ x.toNat ≤ 57) (hne : d ≠ []) (u : Nat) (h : Lib.parseUintB 64 d = .ok u) : u = dv 0 d ∧ dv 0 d ≤ 18446744073709551615 := by
  unfold Lib.parseUintB at h
  rw [if_neg hne, show (2 : Nat) ^ 64 - 1 = 18446744073709551615 by decide] at h
  have hg := pu_good d 0 hd (by omega)
  by_cases c : dv 0 d ≤ 18446744073709551615
  · rw [hg.1 c] at h
    cases h
    exact ⟨rfl, c⟩
  · exact absurd h (hg.2 c u)

theorem pub_ok (d : List UInt8) (hd : ∀ x ∈ d, 48 ≤ x.toNat ∧ x.toNat ≤ 57) (hne : d ≠ []) (c : dv 0 d ≤ 18446744073709551615) : Lib.parseUintB 64 d = .ok (dv 0 d) := by
  unfold Lib.parseUintB
  rw [if_neg hne, show (2 : Nat) ^ 64 - 1 = 18446744073709551615 by decide]
  exact (pu_good d 0 hd (by omega)).1 c

theorem pub_bad (d : List UInt8) (hb : ∃ x ∈ d, x.toNat < 48 ∨ 57 < x.toNat) (u : Nat) : ¬ Lib.parseUintB 64 d = .ok u := by
  unfold Lib.parseUintB
  split
  · simp
  · rw [show (2 : Nat) ^ 64 - 1 = 18446744073709551615 by decide]
    exact pu_bad d 0 hb u

theorem digits_or (d : List UInt8) : (∀ x ∈ d, 48 ≤ x.toNat ∧ x.toNat ≤ 57) ∨ (∃ x ∈ d, x.toNat < 48 ∨ 57 < x.toNat) := by
  by_cases h : ∃ x ∈ d, x.toNat < 48 ∨ 57 < x.toNat
  · exact .inr h
  · left
    intro x hx
    by_cases c : 48 ≤ x.toNat ∧ x.toNat ≤ 57
    · exact c
    · exact absurd ⟨x, hx, by omega⟩ h

/-- nval over the list -/
def nl (l : List UInt8) : Option Int := match Lib.parseIntB 64 l with
  | .ok v => if Lib.itoa v = l then some v else none
  | _ => none

theorem nval_nl (s : ByteArray) : nval s = nl s.data.toList := by
  unfold nval nl
  cases Lib.parseIntB 64 s.data.toList with
  | ok v =>
    simp only
    by_cases h : num v = s
    · rw [if_pos h, if_pos ((num_eq v s).1 h)]
    · rw [if_neg h, if_neg (fun e => h ((num_eq v s).2 e))]
  | «syntax» => rfl
  | range => rfl

theorem p63 : (2 : Nat) ^ (64 - 1) = 9223372036854775808 := by decide

/-- nl at a text with a minus -/
theorem nl_minus (r : List UInt8) : nl (45 :: r) = match Lib.parseUintB 64 r with
    | .ok u => if u ≤ 9223372036854775808 ∧ Lib.itoa (-(u : Int)) = 45 :: r then some (-(u : Int)) else none
    | _ => none := by
  unfold nl Lib.parseIntB
  simp only
  rw [if_pos (by decide), p63]
  cases Lib.parseUintB 64 r with
  | ok u =>
    simp only
    rw [if_neg (by simp)]
    by_cases c : u ≤ 9223372036854775808
    · rw [if_neg (by simp; omega)]
      simp only [if_pos (show (45 : UInt8).toNat = 45 from rfl)]
      by_cases e : Lib.itoa (-(u : Int)) = 45 :: r
      · rw [if_pos e, if_pos ⟨c, e⟩]
      · rw [if_neg e, if_neg (fun h => e h.2)]
    · rw [if_pos ⟨rfl, by omega⟩, if_neg (fun h => c h.1)]
  | «syntax» => rfl
  | range => rfl

/-- nl at a text with no sign -/
theorem nl_plain (c : UInt8) (r : List UInt8) (h1 : ¬ c.toNat = 43) (h2 : ¬ c.toNat = 45) : nl (c :: r) = match Lib.parseUintB 64 (c :: r) with
    | .ok u => if u < 9223372036854775808 ∧ Lib.itoa (u : Int) = c :: r then some (u : Int) else none
    | _ => none := by
  unfold nl Lib.parseIntB
  simp only
  rw [if_neg (by omega), p63]
  cases Lib.parseUintB 64 (c :: r) with
  | ok u =>
    simp only
    by_cases q : u < 9223372036854775808
    · rw [if_neg (by omega), if_neg (by omega)]
      simp only [if_neg h2]
      by_cases e : Lib.itoa (u : Int) = c :: r
      · rw [if_pos e, if_pos ⟨q, e⟩]
      · rw [if_neg e, if_neg (fun h => e h.2)]
    · rw [if_pos ⟨h2, by omega⟩, if_neg (fun h => q h.1)]
  | «syntax» => rfl
  | range => rfl

/-- nl at a text with a plus -/
theorem nl_plus (r : List UInt8) : nl (43 :: r) = none := by
  unfold nl
  cases h : Lib.parseIntB 64 (43 :: r) with
  | ok v =>
    simp only
    refine if_neg fun e => ?_
    unfold Lib.parseIntB at h
    simp only at h
    rw [if_pos (by decide)] at h
    cases hu : Lib.parseUintB 64 r with
    | ok u =>
      rw [hu] at h
      simp only at h
      split at h
      · cases h
      · split at h
        · cases h
        · cases h
          rw [if_neg (by decide), itoa_nat] at e
          have := dig_range u 43 (by rw [e]; simp)
          exact absurd this.1 (by decide)
    | «syntax» => rw [hu] at h; cases h
    | range => rw [hu] at h; cases h
  | «syntax» => rfl
  | range => rfl

/-- digits without noughts ahead, or one nought -/
theorem one_spelling (c : UInt8) (r : List UInt8) (hd : ∀ x ∈ c :: r, 48 ≤ x.toNat ∧ x.toNat ≤ 57) (h : ¬ c = 48) : Lib.decDigits (dv 0 (c :: r)) = c :: r := by
  have hc := hd c (by simp)
  have : ¬ c.toNat = 48 := fun e => h (UInt8.toNat_inj.1 (by show c.toNat = 48; exact e))
  exact dec_of_dv c (by omega) r.length r rfl hd

theorem zero_ahead (r : List UInt8) (u : Nat) (h : Lib.decDigits u = 48 :: r) : u = 0 ∧ r = [] := by
  have h0 := dec_head u (by rw [h]; rfl)
  subst h0
  have : Lib.decDigits 0 = [48] := by rw [Lib.decDigits]; rfl
  rw [this] at h
  exact ⟨rfl, by simpa using h.symm⟩

theorem nl_rnum (s : List UInt8) : nl s = rnum s := by
  cases s with
  | nil => rfl
  | cons c r =>
    by_cases hm : c = 45
    · subst hm
      rw [nl_minus]
      unfold rnum
      simp only [List.head?_cons, List.drop_succ_cons, List.drop_zero, if_true]
      cases r with
      | nil => rfl
      | cons x l =>
        have hne : ¬ (x :: l : List UInt8) = [] := by simp
        rcases digits_or (x :: l) with hd | hb
        · by_cases hx : x = 48
          · subst hx
            rw [if_pos (.inr (.inl ⟨rfl, .inr trivial⟩))]
            cases hu : Lib.parseUintB 64 (48 :: l) with
            | ok u =>
              simp only
              refine if_neg fun h => ?_
              by_cases u0 : u = 0
              · subst u0
                have : Lib.itoa (-((0 : Nat) : Int)) = [48] := by
                  show Lib.itoa ((0 : Nat) : Int) = [48]
                  rw [itoa_nat, Lib.decDigits]
                  rfl
                rw [this] at h
                exact absurd h.2 (by simp)
              · rw [itoa_neg' u (by omega)] at h
                exact u0 (zero_ahead l u (by simpa using h.2)).1
            | «syntax» => rfl
            | range => rfl
          · have hs := one_spelling x l hd hx
            have hp : 1 ≤ dv 0 (x :: l) := by
              have h1 := hd x (by simp)
              have : ¬ x.toNat = 48 := fun e => hx (UInt8.toNat_inj.1 (by show x.toNat = 48; exact e))
              exact dv_pos l x (by omega)
            by_cases hl : 19 < (x :: l).length
            · rw [if_pos (.inr (.inr hl))]
              cases hu : Lib.parseUintB 64 (x :: l) with
              | ok u =>
                simp only
                refine if_neg fun h => ?_
                obtain ⟨e, _⟩ := pub_digits _ hd (by simp) u hu
                have := dec_len19 u h.1
                rw [e, hs] at this
                omega
              | «syntax» => rfl
              | range => rfl
            · rw [if_neg (by simp [hx] at hl ⊢; omega)]
              have hg := rgo_good (x :: l) 0 hd (by omega)
              rw [show (-((0 : Nat) : Int)) = 0 from rfl] at hg
              rw [hg]
              by_cases q : dv 0 (x :: l) ≤ 9223372036854775808
              · rw [if_pos q, pub_ok _ hd (by simp) (by omega)]
                simp only
                rw [if_pos ⟨q, by rw [itoa_neg' _ hp, hs]⟩]
              · rw [if_neg q]
                cases hu : Lib.parseUintB 64 (x :: l) with
                | ok u =>
                  obtain ⟨e, _⟩ := pub_digits _ hd (by simp) u hu
                  simp only
                  exact if_neg fun h => q (e ▸ h.1)
                | «syntax» => rfl
                | range => rfl
        · have hr : rgo 0 (x :: l) = none := rgo_bad _ _ hb
          rw [hr]
          have hn : (match Lib.parseUintB 64 (x :: l) with
              | .ok u => if u ≤ 9223372036854775808 ∧ Lib.itoa (-(u : Int)) = 45 :: x :: l then some (-(u : Int)) else none
              | _ => none) = none := by
            cases hu : Lib.parseUintB 64 (x :: l) with
            | ok u => exact absurd hu (pub_bad _ hb u)
            | «syntax» => rfl
            | range => rfl
          rw [hn]
          split <;> rfl
    · have hm' : ¬ c.toNat = 45 := fun e => hm (UInt8.toNat_inj.1 (by show c.toNat = 45; exact e))
      have hmin : ¬ (c :: r).head? = some 45 := by simpa using hm
      unfold rnum
      simp only [hmin, if_false]
      by_cases hp : c = 43
      · subst hp
        rw [nl_plus, rgo_bad (43 :: r) 0 ⟨43, by simp, .inl (by decide)⟩]
        split <;> rfl
      · have hp' : ¬ c.toNat = 43 := fun e => hp (UInt8.toNat_inj.1 (by show c.toNat = 43; exact e))
        rw [nl_plain c r hp' hm']
        rcases digits_or (c :: r) with hd | hb
        · by_cases hx : c = 48
          · subst hx
            cases r with
            | nil =>
              have e0 : Lib.itoa ((0 : Nat) : Int) = [48] := by rw [itoa_nat, Lib.decDigits]; rfl
              rw [pub_ok [48] hd (by simp) (by decide)]
              simp only
              rw [if_pos ⟨by decide, e0⟩]
              rfl
            | cons y l =>
              rw [if_pos (.inr (.inl ⟨rfl, .inl (by simp)⟩))]
              cases hu : Lib.parseUintB 64 (48 :: y :: l) with
              | ok u =>
                simp only
                refine if_neg fun h => ?_
                rw [itoa_nat] at h
                exact absurd (zero_ahead _ u h.2).2 (by simp)
              | «syntax» => rfl
              | range => rfl
          · have hs := one_spelling c r hd hx
            by_cases hl : 19 < (c :: r).length
            · rw [if_pos (.inr (.inr hl))]
              cases hu : Lib.parseUintB 64 (c :: r) with
              | ok u =>
                simp only
                refine if_neg fun h => ?_
                obtain ⟨e, _⟩ := pub_digits _ hd (by simp) u hu
                have := dec_len19 u (by omega)
                rw [e, hs] at this
                omega
              | «syntax» => rfl
              | range => rfl
            · rw [if_neg (by simp [hx] at hl ⊢; omega)]
              have hg := rgo_good (c :: r) 0 hd (by omega)
              rw [show (-((0 : Nat) : Int)) = 0 from rfl] at hg
              rw [hg]
              by_cases q : dv 0 (c :: r) < 9223372036854775808
              · rw [if_pos (by omega), pub_ok _ hd (by simp) (by omega)]
                simp only
                rw [if_pos ⟨q, by rw [itoa_nat, hs]⟩, if_neg (by omega)]
                simp
              · have hn : (match Lib.parseUintB 64 (c :: r) with
                    | .ok u => if u < 9223372036854775808 ∧ Lib.itoa (u : Int) = c :: r then some (u : Int) else none
                    | _ => none) = none := by
                  cases hu : Lib.parseUintB 64 (c :: r) with
                  | ok u =>
                    obtain ⟨e, _⟩ := pub_digits _ hd (by simp) u hu
                    simp only
                    exact if_neg fun h => q (e ▸ h.1)
                  | «syntax» => rfl
                  | range => rfl
                rw [hn]
                by_cases q2 : dv 0 (c :: r) ≤ 9223372036854775808
                · rw [if_pos q2]
                  simp only
                  rw [if_pos (by omega)]
                · rw [if_neg q2]
        · rw [rgo_bad (c :: r) 0 hb]
          have hn : (match Lib.parseUintB 64 (c :: r) with
              | .ok u => if u < 9223372036854775808 ∧ Lib.itoa (u : Int) = c :: r then some (u : Int) else none
              | _ => none) = none := by
            cases hu : Lib.parseUintB 64 (c :: r) with
            | ok u => exact absurd hu (pub_bad _ hb u)
            | «syntax» => rfl
            | range => rfl
          rw [hn]
          split <;> rfl

end Go.Proofs.YtjnmmkohmfhnlabDoor
