/-
  Plain: the two sums of a header's bytes; no Go in sight.
-/
import Derived.WalkKit
namespace Go.Proofs.YtnmmaedngdibeaaGreatDoor.H
set_option linter.unusedVariables false

/-- The byte that counts at the place i: a blank where the sum itself stands. -/
def cntAt (i : Nat) (z : Int) : Int := if 148 ≤ i ∧ i < 156 then 32 else z
/-- A byte with its sign. -/
def sg (z : Int) : Int := if 127 < z then z - 256 else z
def idt (z : Int) : Int := z

def addF (f : Int → Int) : Nat → List Int → Int
  | _, [] => 0
  | i, z :: r => f (cntAt i z) + addF f (i + 1) r

def plainS (zs : List Int) : Int := addF idt 0 zs
def signedS (zs : List Int) : Int := addF sg 0 zs

def AllB (zs : List Int) : Prop := ∀ z ∈ zs, 0 ≤ z ∧ z ≤ 255

theorem addF_append (f : Int → Int) : ∀ (a b : List Int) (i : Nat), addF f i (a ++ b) = addF f i a + addF f (i + a.length) b
  | [], b, i => by simp [addF]
  | z :: r, b, i => by
    simp only [List.cons_append, addF, List.length_cons]
    rw [addF_append f r b (i + 1), show i + 1 + r.length = i + (r.length + 1) by omega]
    omega

theorem addF_take (f : Int → Int) (zs : List Int) (k : Nat) (h : k < zs.length) : addF f 0 (zs.take (k + 1)) = addF f 0 (zs.take k) + f (cntAt k (zs[k]?.getD 0)) := by
  have e : zs.take (k + 1) = zs.take k ++ [zs[k]?.getD 0] := by
    rw [List.take_succ_eq_append_getElem h]; simp [h]
  rw [e, addF_append]
  have : (zs.take k).length = k := by simp; omega
  simp [addF, this]

theorem cntAt_byte (i : Nat) (z : Int) (h : 0 ≤ z ∧ z ≤ 255) : 0 ≤ cntAt i z ∧ cntAt i z ≤ 255 := by
  unfold cntAt; split <;> omega

theorem addF_bound (f : Int → Int) (lo hi : Int) (hf : ∀ z, 0 ≤ z → z ≤ 255 → lo ≤ f z ∧ f z ≤ hi) : ∀ (zs : List Int) (i : Nat), AllB zs → lo * zs.length ≤ addF f i zs ∧ addF f i zs ≤ hi * zs.length
  | [], i, _ => by simp [addF]
  | z :: r, i, h => by
    have h0 := cntAt_byte i z (h z (by simp))
    have h1 := hf _ h0.1 h0.2
    have h2 := addF_bound f lo hi hf r (i + 1) (fun x hx => h x (by simp [hx]))
    simp only [addF, List.length_cons, Int.natCast_add, Int.natCast_one]
    rw [Int.mul_add, Int.mul_add]
    omega

theorem plain_bound (zs : List Int) (h : AllB zs) : 0 ≤ plainS zs ∧ plainS zs ≤ 255 * zs.length := by
  have := addF_bound idt 0 255 (fun z a b => ⟨a, b⟩) zs 0 h
  unfold plainS
  omega

theorem signed_bound (zs : List Int) (h : AllB zs) : -128 * zs.length ≤ signedS zs ∧ signedS zs ≤ 127 * zs.length :=
  addF_bound sg (-128) 127 (fun z a b => by unfold sg; split <;> omega) zs 0 h

theorem addF_set (f : Int → Int) : ∀ (zs : List Int) (i k : Nat) (v : Int), k < zs.length → addF f i (zs.set k v) = addF f i zs + (f (cntAt (i + k) v) - f (cntAt (i + k) (zs[k]?.getD 0)))
  | [], i, k, v, h => by simp at h
  | z :: r, i, 0, v, h => by simp [addF]; omega
  | z :: r, i, k + 1, v, h => by
    have := addF_set f r (i + 1) k v (by simpa using h)
    simp only [List.set_cons_succ, addF, this, List.getElem?_cons_succ]
    rw [show i + 1 + k = i + (k + 1) by omega]
    omega

theorem addF_same (f : Int → Int) : ∀ (xs ys : List Int) (i : Nat), xs.length = ys.length → (∀ k, ¬ (148 ≤ i + k ∧ i + k < 156) → xs[k]? = ys[k]?) → addF f i xs = addF f i ys
  | [], [], i, _, _ => rfl
  | [], y :: s, i, h, _ => by simp at h
  | x :: r, [], i, h, _ => by simp at h
  | x :: r, y :: s, i, h, hk => by
    have h1 : addF f (i + 1) r = addF f (i + 1) s := addF_same f r s (i + 1) (by simpa using h) fun k hn => by
      have := hk (k + 1) (by omega)
      simpa using this
    have h2 : cntAt i x = cntAt i y := by
      unfold cntAt
      by_cases c : 148 ≤ i ∧ i < 156
      · simp [c]
      · have := hk 0 (by simpa using c)
        simp at this
        simp [c, this]
    simp only [addF, h1, h2]

theorem addF_apart : ∀ (zs : List Int) (i : Nat), AllB zs → ∃ m : Nat, addF idt i zs = addF sg i zs + 256 * m
  | [], i, _ => ⟨0, by simp [addF]⟩
  | z :: r, i, h => by
    obtain ⟨m, hm⟩ := addF_apart r (i + 1) (fun x hx => h x (by simp [hx]))
    simp only [addF, idt, sg] at hm ⊢
    split
    · exact ⟨m + 1, by omega⟩
    · exact ⟨m, by omega⟩

theorem apart (zs : List Int) (h : AllB zs) : ∃ m : Nat, plainS zs = signedS zs + 256 * m := addF_apart zs 0 h

/-- Two headers that part at the sum's field alone have the same sums. -/
theorem sums_same (xs ys : List Int) (hl : xs.length = ys.length) (h : ∀ k, ¬ (148 ≤ k ∧ k < 156) → xs[k]? = ys[k]?) : plainS xs = plainS ys ∧ signedS xs = signedS ys :=
  ⟨addF_same _ _ _ 0 hl fun k hk => h k (by omega), addF_same _ _ _ 0 hl fun k hk => h k (by omega)⟩

end Go.Proofs.YtnmmaedngdibeaaGreatDoor.H
