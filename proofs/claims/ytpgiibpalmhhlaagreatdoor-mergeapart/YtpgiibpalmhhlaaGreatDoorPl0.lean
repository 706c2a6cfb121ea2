/-
  Plain: texts cut at slashes, and put together again.
-/
import Derived.Lib.SplitLaws
import Derived.Lib.Join
import Derived.Lib.ValidLaws
namespace Go.Proofs.YtpgiibpalmhhlaaGreatDoor
open Go.Lib
set_option linter.unusedVariables false
set_option linter.unusedSimpArgs false

/-- a text cut at each slash -/
def spl : List UInt8 → List (List UInt8)
  | [] => [[]]
  | c :: l => if c = 47 then [] :: spl l else (match spl l with | [] => [[c]] | x :: r => (c :: x) :: r)

theorem spl_nil : spl [] = [[]] := rfl
theorem spl_slash (l : List UInt8) : spl (47 :: l) = [] :: spl l := by simp [spl]
theorem spl_ne (l : List UInt8) : spl l ≠ [] := by
  cases l with
  | nil => simp [spl]
  | cons c l => simp only [spl]; split <;> (try split) <;> simp
theorem spl_other (c : UInt8) (l : List UInt8) (h : c ≠ 47) : ∃ x r, spl l = x :: r ∧ spl (c :: l) = (c :: x) :: r := by
  cases e : spl l with
  | nil => exact absurd e (spl_ne l)
  | cons x r => exact ⟨x, r, rfl, by simp [spl, h, e]⟩

theorem spl_plain : ∀ a : List UInt8, 47 ∉ a → spl a = [a]
  | [], _ => rfl
  | c :: l, h => by
    simp only [List.mem_cons, not_or] at h
    obtain ⟨x, r, h1, h2⟩ := spl_other c l (fun e => h.1 e.symm)
    rw [spl_plain l h.2] at h1
    rw [h2]
    obtain ⟨rfl, rfl⟩ := List.cons.inj h1
    rfl

theorem spl_app : ∀ a b : List UInt8, 47 ∉ a → spl (a ++ 47 :: b) = a :: spl b
  | [], b, _ => spl_slash b
  | c :: l, b, h => by
    simp only [List.mem_cons, not_or] at h
    obtain ⟨x, r, h1, h2⟩ := spl_other c (l ++ 47 :: b) (fun e => h.1 e.symm)
    rw [spl_app l b h.2] at h1
    rw [List.cons_append, h2]
    obtain ⟨rfl, rfl⟩ := List.cons.inj h1
    rfl

theorem spl_no : ∀ (s p : List UInt8), p ∈ spl s → 47 ∉ p
  | [], p, h => by simp [spl] at h; subst h; simp
  | c :: l, p, h => by
    by_cases e : c = 47
    · subst e
      rw [spl_slash] at h
      rcases List.mem_cons.1 h with rfl | h
      · simp
      · exact spl_no l p h
    · obtain ⟨x, r, h1, h2⟩ := spl_other c l e
      rw [h2] at h
      rcases List.mem_cons.1 h with rfl | h
      · have := spl_no l x (by rw [h1]; simp)
        simp only [List.mem_cons, not_or]
        exact ⟨fun e' => e e'.symm, this⟩
      · exact spl_no l p (by rw [h1]; simp [h])

/-- parts with a slash between two -/
def jn (ps : List (List UInt8)) : List UInt8 := Lib.join ps [47]

theorem jn_nil : jn [] = [] := rfl
theorem jn_one (p : List UInt8) : jn [p] = p := Lib.join_one p [47]
theorem jn_cons (p q : List UInt8) (r : List (List UInt8)) : jn (p :: q :: r) = p ++ 47 :: jn (q :: r) := by
  unfold jn
  rw [Lib.join_cons, Lib.join_cons]
  simp [Lib.joinTail]

theorem jn_spl : ∀ s : List UInt8, jn (spl s) = s
  | [] => rfl
  | c :: l => by
    have ih := jn_spl l
    by_cases e : c = 47
    · subst e
      rw [spl_slash]
      cases h : spl l with
      | nil => exact absurd h (spl_ne l)
      | cons x r => rw [jn_cons, ← h, ih]; rfl
    · obtain ⟨x, r, h1, h2⟩ := spl_other c l e
      rw [h2]
      rw [h1] at ih
      cases r with
      | nil => rw [jn_one] at *; rw [ih]
      | cons y r => rw [jn_cons] at *; rw [← ih]; rfl

theorem spl_jn : ∀ ps : List (List UInt8), ps ≠ [] → (∀ p ∈ ps, 47 ∉ p) → spl (jn ps) = ps
  | [], h, _ => absurd rfl h
  | [p], _, h => by rw [jn_one, spl_plain p (h p (by simp))]
  | p :: q :: r, _, h => by
    rw [jn_cons, spl_app p _ (h p (by simp)), spl_jn (q :: r) (by simp) (fun x hx => h x (by simp at hx ⊢; right; exact hx))]

theorem jn_append : ∀ (a b : List (List UInt8)), a ≠ [] → b ≠ [] → jn (a ++ b) = jn a ++ 47 :: jn b
  | [], _, h, _ => absurd rfl h
  | [p], b, _, hb => by
    cases b with
    | nil => exact absurd rfl hb
    | cons q r => rw [List.singleton_append, jn_cons, jn_one]
  | p :: q :: r, b, _, hb => by
    have ih := jn_append (q :: r) b (by simp) hb
    rw [List.cons_append, List.cons_append, jn_cons, jn_cons, ← List.cons_append, ih]
    simp

theorem jn_length_le : ∀ (ps : List (List UInt8)) (p : List UInt8), p ∈ ps → p.length ≤ (jn ps).length
  | [], p, h => by simp at h
  | [q], p, h => by simp at h; subst h; rw [jn_one]; exact Nat.le_refl _
  | q :: r :: t, p, h => by
    rw [jn_cons]
    rcases List.mem_cons.1 h with rfl | h
    · simp
    · have := jn_length_le (r :: t) p h
      simp; omega

/-- the library's cut is this one -/
theorem index_cons_eq (l : List UInt8) : index (47 :: l) [47] = 0 := by rw [index]; simp [List.isPrefixOf]
theorem index_cons_ne (c : UInt8) (l : List UInt8) (h : c ≠ 47) : index (c :: l) [47] = if index l [47] = -1 then -1 else index l [47] + 1 := by
  have hp : ([47] : List UInt8).isPrefixOf (c :: l) = false := by simp [List.isPrefixOf, Ne.symm h]
  rw [index, hp]; simp

theorem splitK_spl : ∀ s : List UInt8, splitK [47] 0 (count s [47]) s = spl s
  | [] => by rw [count_miss (by simp [index])]; rfl
  | c :: l => by
    have ih := splitK_spl l
    by_cases e : c = 47
    · subst e
      rw [count_cons_eq, Nat.add_comm, splitK, index_cons_eq, spl_slash, ← ih]
      simp
    · rw [count_cons_ne c 47 l e]
      have hx := index_cons_ne c l e
      obtain ⟨x, r, h1, h2⟩ := spl_other c l e
      rw [h2]
      rw [h1] at ih
      cases hk : count l [47] with
      | zero =>
        rw [hk] at ih
        simp only [splitK] at ih ⊢
        obtain ⟨rfl, rfl⟩ := List.cons.inj ih
        rfl
      | succ k =>
        rw [hk] at ih
        simp only [splitK] at ih ⊢
        by_cases hm : index l [47] = -1
        · rw [hx, if_pos hm]
          rw [hm] at ih
          simp at ih ⊢
          obtain ⟨rfl, rfl⟩ := ih
          exact ⟨rfl, rfl⟩
        · rw [hx, if_neg hm]
          have hge := index_ge l [47]
          obtain ⟨j, hj⟩ : ∃ j : Nat, index l [47] = j := ⟨(index l [47]).toNat, by omega⟩
          rw [hj] at ih ⊢
          have e1 : ¬ (((j : Nat) : Int) == -1) = true := by simp
          have e2 : ¬ ((((j : Nat) : Int) + 1) == -1) = true := by simp; omega
          rw [if_neg e1] at ih
          rw [if_neg e2]
          have e3 : (((j : Nat) : Int) + 1).toNat = j + 1 := by omega
          rw [e3]
          simp only [Int.toNat_natCast, Nat.add_zero, List.length_singleton] at ih ⊢
          rw [List.take_succ_cons, List.drop_succ_cons]
          obtain ⟨rfl, rfl⟩ := List.cons.inj ih
          rfl

/-! which texts are taken -/

/-- is a part kept: neither empty nor a dot? -/
def keep (p : List UInt8) : Bool := p ≠ [] && p ≠ [46]

/-- the first part that isn't taken: what is wrong with it (0: none) -/
def badOf : List (List UInt8) → Int
  | [] => 0
  | p :: r => if keep p = false then badOf r else if p = [46, 46] then 104 else if 255 < p.length then 2 else badOf r

/-- may a text be looked at? -/
def snd0 (s : List UInt8) : Int :=
  if s = [] then 100 else if 4000 < s.length then 2 else if 0 ∈ s then 101 else if validD s = false then 102 else if s.head? = some 47 then 103 else 0

/-- what is wrong with a path (0: nothing) -/
def err (s : List UInt8) : Int := if snd0 s ≠ 0 then snd0 s else badOf (spl s)

/-- its parts -/
def parts (s : List UInt8) : List (List UInt8) := (spl s).filter keep

/-- a part as a clean path has it -/
def Good (p : List UInt8) : Prop := p ≠ [] ∧ p ≠ [46] ∧ p ≠ [46, 46] ∧ p.length ≤ 255 ∧ 47 ∉ p ∧ 0 ∉ p ∧ validD p = true

/-- a piece of a text that may be looked at -/
def Snd (p : List UInt8) : Prop := 47 ∉ p ∧ 0 ∉ p ∧ validD p = true

theorem Good.snd {p : List UInt8} (h : Good p) : Snd p := ⟨h.2.2.2.2.1, h.2.2.2.2.2.1, h.2.2.2.2.2.2⟩
theorem Good.keep {p : List UInt8} (h : Good p) : keep p = true := by simp [YtpgiibpalmhhlaaGreatDoor.keep, h.1, h.2.1]

theorem dec_app (a b : List UInt8) (h : a ≠ []) : decodeL (a ++ 47 :: b) = decodeL a := by
  rw [decodeL_N, decodeL_N]
  match a, h with
  | [x], _ =>
    simp only [List.cons_append, List.nil_append, List.getD_cons_zero, List.getD_cons_succ, List.length_cons, List.getD_nil, List.length_nil]
    have : ((47 : UInt8).toNat) = 47 := rfl
    rw [this]
    unfold decodeN
    simp
  | [x, y], _ =>
    simp only [List.cons_append, List.nil_append, List.getD_cons_zero, List.getD_cons_succ, List.length_cons, List.getD_nil, List.length_nil]
    have : ((47 : UInt8).toNat) = 47 := rfl
    rw [this]
    unfold decodeN
    simp
  | [x, y, z], _ =>
    simp only [List.cons_append, List.nil_append, List.getD_cons_zero, List.getD_cons_succ, List.length_cons, List.getD_nil, List.length_nil]
    have : ((47 : UInt8).toNat) = 47 := rfl
    rw [this]
    unfold decodeN
    simp
  | x :: y :: z :: u :: t, _ =>
    simp only [List.cons_append, List.nil_append, List.getD_cons_zero, List.getD_cons_succ, List.length_cons, List.getD_nil, List.length_nil, List.length_append]
    unfold decodeN
    simp only [show (1 < t.length + (b.length + 1) + 1 + 1 + 1 + 1) = True by simp, show (2 < t.length + (b.length + 1) + 1 + 1 + 1 + 1) = True by simp, show (3 < t.length + (b.length + 1) + 1 + 1 + 1 + 1) = True by simp, show (1 < t.length + 1 + 1 + 1 + 1) = True by simp, show (2 < t.length + 1 + 1 + 1 + 1) = True by simp, show (3 < t.length + 1 + 1 + 1 + 1) = True by simp]

theorem decN_width (n b0 b1 b2 b3 : Nat) (hn : 1 ≤ n) : (decodeN n b0 b1 b2 b3).2 ≤ n := by
  unfold decodeN
  repeat' split
  all_goals simp only
  all_goals omega

theorem dec_width (a : List UInt8) (h : a ≠ []) : (decodeL a).2 ≤ a.length := by
  rw [decodeL_N]
  exact decN_width _ _ _ _ _ (List.length_pos_iff.2 h)

theorem valid_app : ∀ (n : Nat) (a b : List UInt8), a.length ≤ n → validD (a ++ 47 :: b) = (validD a && validD b)
  | 0, a, b, h => by
    obtain rfl : a = [] := List.eq_nil_of_length_eq_zero (by omega)
    rw [List.nil_append, validD_cons 47 b (by decide), validD_nil, Bool.true_and]
  | n + 1, a, b, h => by
    by_cases ha : a = []
    · subst ha; rw [List.nil_append, validD_cons 47 b (by decide), validD_nil, Bool.true_and]
    · have hw := dec_width a ha
      have h1 := decodeL_width a
      rw [validD_step _ (by simp), validD_step a ha, dec_app a b ha]
      by_cases c : (decodeL a).1 = 65533 ∧ (decodeL a).2 = 1
      · rw [if_pos c, if_pos c]; rfl
      · rw [if_neg c, if_neg c, List.drop_append_of_le_length hw]
        exact valid_app n _ b (by rw [List.length_drop]; omega)

theorem valid_slash (a b : List UInt8) : validD (a ++ 47 :: b) = (validD a && validD b) := valid_app a.length a b (Nat.le_refl _)

theorem valid_jn : ∀ ps : List (List UInt8), validD (jn ps) = true ↔ ∀ p ∈ ps, validD p = true
  | [] => by simp [jn_nil, validD_nil]
  | [p] => by simp [jn_one]
  | p :: q :: r => by rw [jn_cons, valid_slash, Bool.and_eq_true, valid_jn (q :: r)]; simp

theorem nul_jn : ∀ ps : List (List UInt8), 0 ∉ jn ps ↔ ∀ p ∈ ps, 0 ∉ p
  | [] => by simp [jn_nil]
  | [p] => by simp [jn_one]
  | p :: q :: r => by
    have ih := nul_jn (q :: r)
    rw [jn_cons, List.mem_append, List.mem_cons, not_or, not_or, ih]
    constructor
    · rintro ⟨h1, h2, h3⟩ x hx
      rcases List.mem_cons.1 hx with rfl | hx
      · exact h1
      · exact h3 x hx
    · intro h
      exact ⟨h p (by simp), by decide, fun x hx => h x (List.mem_cons_of_mem _ hx)⟩

theorem jn_head (p : List UInt8) (r : List (List UInt8)) (hp : p ≠ []) : (jn (p :: r)).head? = p.head? := by
  cases p with
  | nil => exact absurd rfl hp
  | cons c t =>
    cases r with
    | nil => rw [jn_one]
    | cons q r => rw [jn_cons]; rfl

theorem jn_ne (p : List UInt8) (r : List (List UInt8)) (hp : p ≠ []) : jn (p :: r) ≠ [] := by
  intro h
  have := jn_head p r hp
  rw [h] at this
  cases p with
  | nil => exact hp rfl
  | cons c t => simp at this

/-- a text of sound pieces, the first of them not empty, may be looked at -/
theorem snd_jn (p : List UInt8) (r : List (List UInt8)) (hp : p ≠ []) (hs : ∀ x ∈ p :: r, Snd x) (hl : (jn (p :: r)).length ≤ 4000) : snd0 (jn (p :: r)) = 0 := by
  unfold snd0
  rw [if_neg (jn_ne p r hp), if_neg (by omega), if_neg ((nul_jn _).2 fun x hx => (hs x hx).2.1), (valid_jn _).2 fun x hx => (hs x hx).2.2]
  rw [if_neg (by simp), if_neg]
  rw [jn_head p r hp]
  intro h
  have := List.mem_of_mem_head? h
  exact (hs p (by simp)).1 this

theorem badOf_zero : ∀ ps : List (List UInt8), badOf ps = 0 ↔ ∀ p ∈ ps, keep p = true → p ≠ [46, 46] ∧ p.length ≤ 255
  | [] => by simp [badOf]
  | p :: r => by
    have ih := badOf_zero r
    simp only [badOf, List.forall_mem_cons]
    by_cases k : keep p = false
    · rw [if_pos k, ih]
      simp [k]
    · rw [if_neg k]
      have k' : keep p = true := by simpa using k
      by_cases d : p = [46, 46]
      · rw [if_pos d]; simp [d, k']
        intro h; exact absurd h (by decide)
      · rw [if_neg d]
        by_cases l : 255 < p.length
        · rw [if_pos l]; simp [k', d]; omega
        · rw [if_neg l, ih]; simp [k', d]; omega

theorem snd_zero (s : List UInt8) : snd0 s = 0 ↔ s ≠ [] ∧ s.length ≤ 4000 ∧ 0 ∉ s ∧ validD s = true ∧ s.head? ≠ some 47 := by
  unfold snd0
  by_cases c1 : s = []
  · simp [c1]
  rw [if_neg c1]
  by_cases c2 : 4000 < s.length
  · rw [if_pos c2]; simp; omega
  rw [if_neg c2]
  by_cases c3 : 0 ∈ s
  · rw [if_pos c3]; simp [c3]
  rw [if_neg c3]
  by_cases c4 : validD s = false
  · rw [if_pos c4]; simp [c4]
  rw [if_neg c4]
  have c4' : validD s = true := by simpa using c4
  by_cases c5 : s.head? = some 47
  · rw [if_pos c5]; simp [c5]
  · rw [if_neg c5]; simp [c1, c3, c4', c5]; omega

theorem snd_pieces (s : List UInt8) (h : snd0 s = 0) : ∀ p ∈ spl s, Snd p := by
  obtain ⟨_, _, h3, h4, _⟩ := (snd_zero s).1 h
  have e := jn_spl s
  intro p hp
  refine ⟨spl_no s p hp, ?_, ?_⟩
  · have := (nul_jn (spl s)).1 (by rw [e]; exact h3); exact this p hp
  · have := (valid_jn (spl s)).1 (by rw [e]; exact h4); exact this p hp

theorem err_zero (s : List UInt8) : err s = 0 ↔ snd0 s = 0 ∧ badOf (spl s) = 0 := by
  unfold err
  by_cases c : snd0 s = 0
  · simp [c]
  · simp [c]

/-- the parts of a path that is taken are good -/
theorem parts_good (s : List UInt8) (h : err s = 0) : ∀ p ∈ parts s, Good p := by
  obtain ⟨h1, h2⟩ := (err_zero s).1 h
  intro p hp
  obtain ⟨m, k⟩ := List.mem_filter.1 hp
  have k' : keep p = true := by simpa using k
  obtain ⟨d, l⟩ := (badOf_zero _).1 h2 p m k'
  obtain ⟨a1, a2, a3⟩ := snd_pieces s h1 p m
  have : p ≠ [] ∧ p ≠ [46] := by simpa [keep] using k'
  exact ⟨this.1, this.2, d, l, a1, a2, a3⟩

theorem parts_jn (ps : List (List UInt8)) (h : ps ≠ []) (hs : ∀ p ∈ ps, 47 ∉ p) : parts (jn ps) = ps.filter keep := by
  unfold parts; rw [spl_jn ps h hs]

theorem filter_good (ps : List (List UInt8)) (h : ∀ p ∈ ps, Good p) : ps.filter keep = ps := List.filter_eq_self.2 fun p hp => by simpa using (h p hp).keep

theorem badOf_good (ps : List (List UInt8)) (h : ∀ p ∈ ps, Good p) : badOf ps = 0 := (badOf_zero ps).2 fun p hp _ => ⟨(h p hp).2.2.1, (h p hp).2.2.2.1⟩

/-- good parts, put together, are taken, and are those parts -/
theorem err_jn (ps : List (List UInt8)) (hne : ps ≠ []) (h : ∀ p ∈ ps, Good p) (hl : (jn ps).length ≤ 4000) : err (jn ps) = 0 := by
  rw [err_zero]
  cases ps with
  | nil => exact absurd rfl hne
  | cons p r =>
    refine ⟨snd_jn p r (h p (by simp)).1 (fun x hx => (h x hx).snd) hl, ?_⟩
    rw [spl_jn _ (by simp) (fun x hx => (h x hx).snd.1)]
    exact badOf_good _ h

theorem parts_good_jn (ps : List (List UInt8)) (hne : ps ≠ []) (h : ∀ p ∈ ps, Good p) : parts (jn ps) = ps := by
  rw [parts_jn ps hne (fun p hp => (h p hp).snd.1), filter_good ps h]

theorem jn_filter_length : ∀ ps : List (List UInt8), (jn (ps.filter keep)).length ≤ (jn ps).length
  | [] => by simp
  | [p] => by
    by_cases k : keep p = true
    · simp [List.filter_cons, k]
    · simp [List.filter_cons, k, jn_nil]
  | p :: q :: r => by
    have ih := jn_filter_length (q :: r)
    by_cases k : keep p = true
    · rw [List.filter_cons_of_pos k, jn_cons]
      cases h : (q :: r).filter keep with
      | nil => rw [jn_one]; simp
      | cons x t => rw [jn_cons, ← h]; simp; omega
    · rw [List.filter_cons_of_neg k, jn_cons]; simp; omega

theorem jn_parts_length (s : List UInt8) : (jn (parts s)).length ≤ s.length := by
  have := jn_filter_length (spl s)
  rw [jn_spl] at this
  exact this

end Go.Proofs.YtpgiibpalmhhlaaGreatDoor
