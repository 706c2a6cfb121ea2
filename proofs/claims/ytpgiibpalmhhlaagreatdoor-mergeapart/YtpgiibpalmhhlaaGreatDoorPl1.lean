/-
  Plain: steps from a directory on, and how a path is named from it.
-/
import Derived.Test.YtpgiibpalmhhlaaGreatDoorPl0
namespace Go.Proofs.YtpgiibpalmhhlaaGreatDoor
open Go.Lib
set_option linter.unusedVariables false
set_option linter.unusedSimpArgs false

/-- where the steps lead from a directory on, and what is wrong with them (0: nothing) -/
def stp : List (List UInt8) → List (List UInt8) → List (List UInt8) × Int
  | at_, [] => (at_, 0)
  | at_, p :: r =>
    if keep p = false then stp at_ r
    else if p = [46, 46] then (if at_ = [] then ([], 110) else stp at_.dropLast r)
    else if 255 < p.length then ([], 2) else stp (at_ ++ [p]) r

/-- the parts of a clean path as a text -/
def prt (d : List UInt8) : List (List UInt8) := if d = [] then [] else spl d

theorem prt_jn (ps : List (List UInt8)) (h : ∀ p ∈ ps, Good p) : prt (jn ps) = ps := by
  cases ps with
  | nil => rfl
  | cons p r =>
    unfold prt
    rw [if_neg (jn_ne p r (h p (by simp)).1), spl_jn _ (by simp) fun x hx => (h x hx).snd.1]

/-- what a name in a directory points to: the path, and what is wrong with it -/
def rsv (d to : List UInt8) : List UInt8 × Int :=
  if snd0 to = 103 then ([], 110) else if snd0 to ≠ 0 then ([], snd0 to)
  else if (stp (prt d) (spl to)).2 ≠ 0 then ([], (stp (prt d) (spl to)).2) else (jn (stp (prt d) (spl to)).1, 0)

theorem stp_code : ∀ (ps a : List (List UInt8)), (stp a ps).2 = 0 ∨ (stp a ps).2 = 110 ∨ (stp a ps).2 = 2
  | [], a => .inl rfl
  | p :: r, a => by
    simp only [stp]
    split
    · exact stp_code r a
    · split
      · split
        · exact .inr (.inl rfl)
        · exact stp_code r _
      · split
        · exact .inr (.inr rfl)
        · exact stp_code r _

/-- what the steps lead to is good, if the directory is, and the steps are sound -/
theorem stp_good : ∀ (ps a : List (List UInt8)), (∀ p ∈ a, Good p) → (∀ p ∈ ps, Snd p) → ∀ p ∈ (stp a ps).1, Good p
  | [], a, ha, _ => ha
  | p :: r, a, ha, hs => by
    have hr : ∀ x ∈ r, Snd x := fun x hx => hs x (by simp [hx])
    simp only [stp]
    split
    · exact stp_good r a ha hr
    · rename_i k
      split
      · split
        · intro x hx; simp at hx
        · exact stp_good r _ (fun x hx => ha x (List.dropLast_subset _ hx)) hr
      · rename_i d
        split
        · intro x hx; simp at hx
        · rename_i l
          refine stp_good r _ (fun x hx => ?_) hr
          rcases List.mem_append.1 hx with hx | hx
          · exact ha x hx
          · simp at hx
            subst hx
            have k' : keep x = true := by simpa using k
            have kk : x ≠ [] ∧ x ≠ [46] := by simpa [keep] using k'
            have := hs x (by simp)
            exact ⟨kk.1, kk.2, d, by omega, this.1, this.2.1, this.2.2⟩

theorem stp_append : ∀ (x y a : List (List UInt8)), (stp a x).2 = 0 → stp a (x ++ y) = stp (stp a x).1 y
  | [], y, a, _ => rfl
  | p :: r, y, a, h => by
    simp only [stp, List.cons_append] at h ⊢
    split
    · rename_i k; rw [if_pos k] at h; exact stp_append r y a h
    · rename_i k
      rw [if_neg k] at h
      split
      · rename_i d
        rw [if_pos d] at h
        split
        · rename_i e; rw [if_pos e] at h; simp at h
        · rename_i e; rw [if_neg e] at h; exact stp_append r y _ h
      · rename_i d
        rw [if_neg d] at h
        split
        · rename_i l; rw [if_pos l] at h; simp at h
        · rename_i l; rw [if_neg l] at h; exact stp_append r y _ h

/-- good steps go down -/
theorem stp_down : ∀ (g a : List (List UInt8)), (∀ p ∈ g, Good p) → stp a g = (a ++ g, 0)
  | [], a, _ => by simp [stp]
  | p :: r, a, h => by
    have hp := h p (by simp)
    simp only [stp]
    rw [if_neg (by rw [hp.keep]; simp), if_neg hp.2.2.1, if_neg (by have := hp.2.2.2.1; omega), stp_down r _ fun x hx => h x (by simp [hx])]
    simp

/-- steps up -/
theorem stp_up : ∀ (k : Nat) (a : List (List UInt8)), k ≤ a.length → stp a (List.replicate k [46, 46]) = (a.take (a.length - k), 0)
  | 0, a, _ => by simp [stp]
  | k + 1, a, h => by
    have ha : a ≠ [] := by rintro rfl; simp at h
    have hl : a.dropLast.length = a.length - 1 := List.length_dropLast
    simp only [List.replicate_succ, stp]
    rw [if_neg (by decide), if_pos trivial, if_neg ha, stp_up k a.dropLast (by omega), hl, List.dropLast_eq_take, List.take_take]
    congr 2
    omega

theorem stp_over : ∀ (k : Nat) (a : List (List UInt8)), a.length < k → stp a (List.replicate k [46, 46]) = ([], 110)
  | 0, a, h => by simp at h
  | k + 1, a, h => by
    simp only [List.replicate_succ, stp]
    rw [if_neg (by decide), if_pos trivial]
    by_cases ha : a = []
    · rw [if_pos ha]
    · rw [if_neg ha]
      exact stp_over k _ (by rw [List.length_dropLast]; have := List.length_pos_iff.2 ha; omega)

/-- the parts with which both begin left out -/
def strip : List (List UInt8) → List (List UInt8) → List (List UInt8) × List (List UInt8)
  | a :: x, b :: y => if a = b then strip x y else (a :: x, b :: y)
  | x, y => (x, y)

theorem strip_spec : ∀ x y : List (List UInt8), ∃ c, x = c ++ (strip x y).1 ∧ y = c ++ (strip x y).2
  | [], y => ⟨[], by simp [strip], by simp [strip]⟩
  | a :: x, [] => ⟨[], by simp [strip], by simp [strip]⟩
  | a :: x, b :: y => by
    simp only [strip]
    split
    · rename_i e
      subst e
      obtain ⟨c, h1, h2⟩ := strip_spec x y
      exact ⟨a :: c, by rw [List.cons_append, ← h1], by rw [List.cons_append, ← h2]⟩
    · exact ⟨[], rfl, rfl⟩

/-- the steps from a directory to a path -/
def relP (x y : List (List UInt8)) : List (List UInt8) :=
  if (strip x y).1 = [] ∧ (strip x y).2 = [] then [[46]] else List.replicate (strip x y).1.length [46, 46] ++ (strip x y).2

/-- ... as a text -/
def rel (x y : List (List UInt8)) : List UInt8 := jn (relP x y)

theorem relP_back (x y : List (List UInt8)) (hy : ∀ p ∈ y, Good p) : stp x (relP x y) = (y, 0) := by
  obtain ⟨c, h1, h2⟩ := strip_spec x y
  unfold relP
  split
  · rename_i h
    rw [h.1] at h1; rw [h.2] at h2
    simp at h1 h2
    rw [h1, h2]
    simp [stp, keep]
  · generalize (strip x y).1 = f at *
    generalize (strip x y).2 = g at *
    have hu := stp_up f.length x (by rw [h1]; simp)
    rw [stp_append _ _ _ (by rw [hu]), hu]
    rw [stp_down g _ fun p hp => hy p (by rw [h2]; simp [hp])]
    rw [h1, h2]
    simp

theorem relP_ne (x y : List (List UInt8)) : relP x y ≠ [] := by
  unfold relP
  split
  · simp
  · rename_i h
    intro e
    simp at e
    exact h ⟨by simpa using e.1, e.2⟩

theorem good_up : Snd [46, 46] := ⟨by decide, by decide, by decide⟩
theorem good_dot : Snd [46] := ⟨by decide, by decide, by decide⟩

theorem relP_snd (x y : List (List UInt8)) (hy : ∀ p ∈ y, Good p) : ∀ p ∈ relP x y, Snd p ∧ p ≠ [] := by
  obtain ⟨c, h1, h2⟩ := strip_spec x y
  unfold relP
  split
  · intro p hp; simp at hp; subst hp; exact ⟨good_dot, by simp⟩
  · intro p hp
    rcases List.mem_append.1 hp with hp | hp
    · obtain ⟨_, rfl⟩ := List.mem_replicate.1 hp; exact ⟨good_up, by simp⟩
    · have := hy p (by rw [h2]; simp [hp]); exact ⟨this.snd, this.1⟩

theorem jn_len_up (k : Nat) : (jn (List.replicate k [46, 46])).length ≤ 3 * k := by
  induction k with
  | zero => simp [jn_nil]
  | succ k ih =>
    cases k with
    | zero => simp [jn_one]
    | succ k =>
      rw [List.replicate_succ, List.replicate_succ, jn_cons, ← List.replicate_succ]
      simp only [List.length_append, List.length_cons, List.length_nil]
      omega

theorem jn_len_app (a b : List (List UInt8)) : (jn (a ++ b)).length ≤ (jn a).length + 1 + (jn b).length := by
  by_cases ha : a = []
  · subst ha; simp
  · by_cases hb : b = []
    · subst hb; simp; omega
    · rw [jn_append a b ha hb]; simp; omega

theorem jn_len_right (a b : List (List UInt8)) : (jn b).length ≤ (jn (a ++ b)).length := by
  by_cases ha : a = []
  · subst ha; simp
  · by_cases hb : b = []
    · subst hb; simp [jn_nil]
    · rw [jn_append a b ha hb]; simp; omega

theorem jn_len_count : ∀ a : List (List UInt8), (∀ p ∈ a, p ≠ []) → 2 * a.length ≤ (jn a).length + 1
  | [], _ => by simp
  | [p], h => by
    have := List.length_pos_iff.2 (h p (by simp))
    rw [jn_one]; simp; omega
  | p :: q :: r, h => by
    have := List.length_pos_iff.2 (h p (by simp))
    have ih := jn_len_count (q :: r) (fun x hx => h x (by simp at hx ⊢; right; exact hx))
    rw [jn_cons]
    simp only [List.length_append, List.length_cons] at ih ⊢
    omega

theorem rel_len (x y : List (List UInt8)) (hx : ∀ p ∈ x, p ≠ []) : (rel x y).length ≤ 2 * (jn x).length + (jn y).length + 8 := by
  obtain ⟨c, h1, h2⟩ := strip_spec x y
  unfold rel relP
  split
  · simp [jn_one]
  · have e1 := jn_len_app (List.replicate (strip x y).1.length [46, 46]) (strip x y).2
    have e2 := jn_len_up (strip x y).1.length
    have e3 := jn_len_right c (strip x y).2
    have e4 := jn_len_count x hx
    rw [← h2] at e3
    have e5 : (strip x y).1.length ≤ x.length := by
      have := congrArg List.length h1
      simp at this
      omega
    omega

/-- a name that was made from a directory is sound, and leads back -/
theorem rsv_rel (x y : List (List UInt8)) (hx : ∀ p ∈ x, Good p) (hy : ∀ p ∈ y, Good p) (hl : 2 * (jn x).length + (jn y).length + 8 ≤ 4000) : rsv (jn x) (rel x y) = (jn y, 0) := by
  have hs := relP_snd x y hy
  have hr := rel_len x y fun p hp => (hx p hp).1
  have h0 : snd0 (rel x y) = 0 := by
    unfold rel at hr ⊢
    cases h : relP x y with
    | nil => exact absurd h (relP_ne x y)
    | cons p r =>
      rw [h] at hs hr
      exact snd_jn p r (hs p (by simp)).2 (fun z hz => (hs z hz).1) (by omega)
  have hp : spl (rel x y) = relP x y := spl_jn _ (relP_ne x y) fun p hp => (hs p hp).1.1
  unfold rsv
  rw [h0, hp, prt_jn x hx, relP_back x y hy]
  simp

end Go.Proofs.YtpgiibpalmhhlaaGreatDoor
