/-
  Plain: a header that bears a sum, and one that is sealed; no Go in sight.
-/
import Derived.Test.YtnmmaedngdibeaaGreatDoorHSums
import Derived.Test.YtnmmaedngdibeaaGreatDoorHPd
import Derived.Test.YtnmmaedngdibeaaGreatDoorHOct
namespace Go.Proofs.YtnmmaedngdibeaaGreatDoor.H
set_option linter.unusedVariables false

theorem dgo_octs (m : Nat) : ∀ (n p : Int) (r : List Int), ¬ p = 2 → 0 ≤ n → n < 8 ^ (m + 1) → n ≤ 9223372036854775807 → dgo (octs n (m + 1) ++ r) 0 p = dgo r n 1 := by
  induction m with
  | zero =>
    intro n p r hp h0 h1 h2
    have h1 : n < 8 := by simpa using h1
    have e : octs n (0 + 1) = [48 + n] := by simp [octs]; omega
    rw [e]
    simp only [List.cons_append, List.nil_append, dgo, dstep]
    rw [if_neg (by omega), if_pos ⟨by omega, hp⟩, if_neg (by omega)]
    simp only [Int.mul_zero, Int.zero_add]
    rw [show 48 + n - 48 = n by omega]
  | succ m ih =>
    intro n p r hp h0 h1 h2
    rw [Int.pow_succ] at h1
    rw [octs, List.append_assoc, ih (n / 8) p _ hp (by omega) (by omega) (by omega)]
    simp only [List.cons_append, List.nil_append, dgo, dstep]
    rw [if_neg (by omega), if_pos ⟨by omega, by omega⟩, if_neg (by omega)]
    simp only []
    rw [show 8 * (n / 8) + (48 + n % 8 - 48) = n by omega]

theorem octs_cons (n : Int) (m : Nat) : ∃ z t, octs n (m + 1) = z :: t ∧ 48 ≤ z ∧ z ≤ 55 := by
  cases h : octs n (m + 1) with
  | nil => have := octs_length n (m + 1); rw [h] at this; simp at this
  | cons z t => exact ⟨z, t, rfl, octs_mem n (m + 1) z (by rw [h]; simp)⟩

theorem parseO_octs (n : Int) (m : Nat) (r : List Int) (h0 : 0 ≤ n) (h1 : n < 8 ^ (m + 1)) (h2 : n ≤ 9223372036854775807) : parseO (octs n (m + 1) ++ r) = dgo r n 1 := by
  have d := dgo_octs m n 0 r (by decide) h0 h1 h2
  obtain ⟨z, t, e, z0, z1⟩ := octs_cons n m
  rw [e] at d ⊢
  simp only [List.cons_append, parseO] at d ⊢
  rw [if_pos (by omega), d]

/-- The sum's field with a number of six digits, blanks ahead and behind. -/
def fieldF (n : Int) (bl : Nat) : List Int := List.replicate bl 32 ++ octs n 6 ++ List.replicate (2 - bl) 32

theorem fieldF_length (n : Int) (bl : Nat) (h : bl ≤ 2) : (fieldF n bl).length = 8 := by
  simp [fieldF, octs_length]; omega

theorem fieldF_allB (n : Int) (bl : Nat) : AllB (fieldF n bl) := by
  intro z hz
  simp only [fieldF, List.mem_append, List.mem_replicate] at hz
  rcases hz with (⟨_, rfl⟩ | h) | ⟨_, rfl⟩
  · omega
  · have := octs_mem n 6 z h; omega
  · omega

theorem parseO_fieldF (n : Int) (bl : Nat) (h : bl ≤ 2) (h0 : 0 ≤ n) (h1 : n < 262144) : parseO (fieldF n bl) = some n := by
  have hp : n < 8 ^ (5 + 1) := by simpa using h1
  match bl, h with
  | 0, _ =>
    simp only [fieldF, List.replicate, List.nil_append]
    rw [show (6 : Nat) = 5 + 1 from rfl, parseO_octs n 5 _ h0 hp (by omega)]
    simp [dgo, dstep]
  | 1, _ =>
    simp only [fieldF, List.replicate, List.nil_append, List.cons_append, parseO]
    rw [if_pos (by decide)]
    simp only [dgo, dstep]
    have := dgo_octs 5 n 0 [32] (by decide) h0 hp (by omega)
    simpa [dgo, dstep] using this
  | 2, _ =>
    simp only [fieldF, List.replicate, List.nil_append, List.cons_append, parseO]
    rw [if_pos (by decide)]
    simp only [dgo, dstep]
    have := dgo_octs 5 n 0 [] (by decide) h0 hp (by omega)
    simpa [dgo, dstep] using this

def fieldOf (zs : List Int) : List Int := (zs.drop 148).take 8
/-- A header with other bytes where its sum stands. -/
def putL (zs F : List Int) : List Int := zs.take 148 ++ F ++ zs.drop 156
def endF (n : Int) : List Int := octs n 6 ++ [0, 32]
def sealL (zs : List Int) : List Int := putL zs (endF (plainS zs))

def rightO (o : Option Int) (p s : Int) : Bool := match o with | some n => decide (n = p) || decide (n = s) | none => false
def rightB (zs : List Int) : Bool := decide (zs.length = 512) && rightO (parseO (fieldOf zs)) (plainS zs) (signedS zs)

theorem endF_length (n : Int) : (endF n).length = 8 := by simp [endF, octs_length]
theorem endF_allB (n : Int) : AllB (endF n) := by
  intro z hz
  simp only [endF, List.mem_append, List.mem_cons, List.not_mem_nil, or_false] at hz
  rcases hz with h | rfl | rfl
  · have := octs_mem n 6 z h; omega
  · omega
  · omega
theorem parseO_endF (n : Int) (h0 : 0 ≤ n) (h1 : n < 262144) : parseO (endF n) = some n := by
  rw [endF, show (6 : Nat) = 5 + 1 from rfl, parseO_octs n 5 _ h0 (by simpa using h1) (by omega)]
  simp [dgo, dstep]

theorem putL_length (zs F : List Int) (h : zs.length = 512) (hF : F.length = 8) : (putL zs F).length = 512 := by
  simp [putL, h, hF]

theorem putL_allB (zs F : List Int) (h : AllB zs) (hF : AllB F) : AllB (putL zs F) := by
  intro z hz
  simp only [putL, List.mem_append] at hz
  rcases hz with (h1 | h1) | h1
  · exact h z (List.mem_of_mem_take h1)
  · exact hF z h1
  · exact h z (List.mem_of_mem_drop h1)

theorem putL_out (zs F : List Int) (h : zs.length = 512) (hF : F.length = 8) (k : Nat) (hk : ¬ (148 ≤ k ∧ k < 156)) : (putL zs F)[k]? = zs[k]? := by
  unfold putL
  have e1 : (zs.take 148).length = 148 := by simp [h]
  by_cases c : k < 148
  · rw [List.append_assoc, List.getElem?_append_left (by omega), List.getElem?_take, if_pos c]
  · rw [List.getElem?_append_right (by simp [h, hF]; omega), List.getElem?_drop]
    congr 1
    simp [h, hF]; omega

theorem putL_sums (zs F : List Int) (h : zs.length = 512) (hF : F.length = 8) : plainS (putL zs F) = plainS zs ∧ signedS (putL zs F) = signedS zs :=
  sums_same _ _ (by rw [putL_length zs F h hF, h]) fun k hk => putL_out zs F h hF k hk

theorem fieldOf_putL (zs F : List Int) (h : zs.length = 512) (hF : F.length = 8) : fieldOf (putL zs F) = F := by
  unfold fieldOf putL
  have e1 : (zs.take 148).length = 148 := by simp [h]
  rw [List.append_assoc, List.drop_append_of_le_length (by omega), List.drop_of_length_le (by omega), List.nil_append, List.take_append_of_le_length (by omega), List.take_of_length_le (by omega)]

theorem right_putL (zs F : List Int) (h : zs.length = 512) (hF : F.length = 8) : rightB (putL zs F) = rightO (parseO F) (plainS zs) (signedS zs) := by
  unfold rightB
  rw [putL_length zs F h hF, fieldOf_putL zs F h hF, (putL_sums zs F h hF).1, (putL_sums zs F h hF).2]
  simp

theorem plain_small (zs : List Int) (h : zs.length = 512) (hb : AllB zs) : 0 ≤ plainS zs ∧ plainS zs ≤ 130560 := by
  have := plain_bound zs hb
  rw [h] at this
  omega

theorem sealL_length (zs : List Int) (h : zs.length = 512) : (sealL zs).length = 512 := putL_length _ _ h (endF_length _)
theorem sealL_allB (zs : List Int) (h : AllB zs) : AllB (sealL zs) := putL_allB _ _ h (endF_allB _)
theorem sealL_right (zs : List Int) (h : zs.length = 512) (hb : AllB zs) : rightB (sealL zs) = true := by
  have := plain_small zs h hb
  rw [sealL, right_putL zs _ h (endF_length _), parseO_endF _ this.1 (by omega)]
  simp [rightO]
theorem sealL_sums (zs : List Int) (h : zs.length = 512) : plainS (sealL zs) = plainS zs ∧ signedS (sealL zs) = signedS zs := putL_sums _ _ h (endF_length _)

theorem fieldOf_set (zs : List Int) (k : Nat) (v : Int) (hk : ¬ (148 ≤ k ∧ k < 156)) : fieldOf (zs.set k v) = fieldOf zs := by
  unfold fieldOf
  apply List.ext_getElem?
  intro i
  rw [List.getElem?_take, List.getElem?_take]
  by_cases c : i < 8
  · rw [if_pos c, if_pos c, List.getElem?_drop, List.getElem?_drop, List.getElem?_set_ne (by omega)]
  · rw [if_neg c, if_neg c]

/-- A sealed header with one byte another one. -/
theorem seal_turned (zs : List Int) (h : zs.length = 512) (hb : AllB zs) (k : Nat) (v : Int) (hk : k < 512) (hf : ¬ (148 ≤ k ∧ k < 156)) (hv : v ≠ (sealL zs)[k]?.getD 0) :
    plainS ((sealL zs).set k v) = plainS (sealL zs) + (v - (sealL zs)[k]?.getD 0) ∧ rightB ((sealL zs).set k v) = decide (signedS ((sealL zs).set k v) = plainS (sealL zs)) := by
  have hl := sealL_length zs h
  have e1 : plainS ((sealL zs).set k v) = plainS (sealL zs) + (v - (sealL zs)[k]?.getD 0) := by
    have := addF_set idt (sealL zs) 0 k v (by omega)
    simp only [Nat.zero_add, cntAt, idt, if_neg hf] at this
    exact this
  refine ⟨e1, ?_⟩
  have hp := plain_small zs h hb
  unfold rightB
  rw [fieldOf_set _ _ _ hf]
  have ef : fieldOf (sealL zs) = endF (plainS zs) := fieldOf_putL zs _ h (endF_length _)
  rw [ef, parseO_endF _ hp.1 (by omega), e1, (sealL_sums zs h).1]
  simp only [List.length_set, hl, decide_true, Bool.true_and, rightO]
  have : ¬ plainS zs = plainS zs + (v - (sealL zs)[k]?.getD 0) := by omega
  rw [decide_eq_false this, Bool.false_or]
  exact decide_eq_decide.2 eq_comm

end Go.Proofs.YtnmmaedngdibeaaGreatDoor.H
