/-
  Plain: how often each byte stands in a header, and the sums out of that.
-/
import Derived.Test.YtmholjjicklnhabDoorSums
namespace Go.Proofs.YtmholjjicklnhabDoor
set_option linter.unusedVariables false

def bumpAt (cs : List Int) (v : Nat) : List Int := cs.set v (cs[v]?.getD 0 + 1)
def cts : Nat → List Int → List Int → List Int
  | _, cs, [] => cs
  | i, cs, z :: r => cts (i + 1) (bumpAt cs (cntAt i z).toNat) r
def Z256 : List Int := List.replicate 256 0
def countsL (zs : List Int) : List Int := cts 0 Z256 zs

theorem cts_append : ∀ (a b : List Int) (i : Nat) (cs : List Int), cts i cs (a ++ b) = cts (i + a.length) (cts i cs a) b
  | [], b, i, cs => by simp [cts]
  | z :: r, b, i, cs => by
    simp only [List.cons_append, cts, List.length_cons]
    rw [cts_append r b (i + 1), show i + 1 + r.length = i + (r.length + 1) by omega]

theorem countsL_take (zs : List Int) (k : Nat) (h : k < zs.length) : countsL (zs.take (k + 1)) = bumpAt (countsL (zs.take k)) (cntAt k (zs[k]?.getD 0)).toNat := by
  have e : zs.take (k + 1) = zs.take k ++ [zs[k]?.getD 0] := by
    rw [List.take_succ_eq_append_getElem h]; simp [h]
  unfold countsL
  rw [e, cts_append]
  have : (zs.take k).length = k := by simp; omega
  rw [this, Nat.zero_add]
  rfl

theorem bumpAt_length (cs : List Int) (v : Nat) : (bumpAt cs v).length = cs.length := by simp [bumpAt]
theorem cts_length : ∀ (zs : List Int) (i : Nat) (cs : List Int), (cts i cs zs).length = cs.length
  | [], i, cs => rfl
  | z :: r, i, cs => by rw [cts, cts_length, bumpAt_length]
theorem countsL_length (zs : List Int) : (countsL zs).length = 256 := by rw [countsL, cts_length, Z256, List.length_replicate]

def Bnd (cs : List Int) (M : Int) : Prop := ∀ c ∈ cs, 0 ≤ c ∧ c ≤ M
theorem Bnd.at {cs : List Int} {M : Int} (h : Bnd cs M) (hM : 0 ≤ M) (v : Nat) : 0 ≤ cs[v]?.getD 0 ∧ cs[v]?.getD 0 ≤ M := by
  by_cases c : v < cs.length
  · simp only [List.getElem?_eq_getElem c, Option.getD_some]; exact h _ (List.getElem_mem c)
  · rw [List.getElem?_eq_none (by omega)]; exact ⟨by simp, by simpa using hM⟩
theorem Bnd.bump {cs : List Int} {M : Int} (h : Bnd cs M) (hM : 0 ≤ M) (v : Nat) : Bnd (bumpAt cs v) (M + 1) := by
  intro z hz
  rcases List.mem_or_eq_of_mem_set hz with h1 | rfl
  · have := h z h1; omega
  · have := h.at hM v; omega
theorem cts_bnd : ∀ (zs : List Int) (i : Nat) (cs : List Int) (M : Int), 0 ≤ M → Bnd cs M → Bnd (cts i cs zs) (M + zs.length)
  | [], i, cs, M, hM, h => by simpa [cts] using h
  | z :: r, i, cs, M, hM, h => by
    have := cts_bnd r (i + 1) _ (M + 1) (by omega) (h.bump hM (cntAt i z).toNat)
    rw [cts, List.length_cons, show M + ((r.length + 1 : Nat) : Int) = M + 1 + (r.length : Int) by omega]
    exact this
theorem countsL_bnd (zs : List Int) : Bnd (countsL zs) zs.length := by
  have := cts_bnd zs 0 Z256 0 (by omega) (fun c h => by have := List.eq_of_mem_replicate h; omega)
  rw [Int.zero_add] at this
  exact this

def wsum (f : Nat → Int) : Nat → List Int → Int
  | _, [] => 0
  | i, c :: r => f i * c + wsum f (i + 1) r

theorem wsum_append (f : Nat → Int) : ∀ (a b : List Int) (i : Nat), wsum f i (a ++ b) = wsum f i a + wsum f (i + a.length) b
  | [], b, i => by simp [wsum]
  | z :: r, b, i => by
    simp only [List.cons_append, wsum, List.length_cons]
    rw [wsum_append f r b (i + 1), show i + 1 + r.length = i + (r.length + 1) by omega]
    omega

theorem wsum_take (f : Nat → Int) (cs : List Int) (k : Nat) (h : k < cs.length) : wsum f 0 (cs.take (k + 1)) = wsum f 0 (cs.take k) + f k * cs[k]?.getD 0 := by
  have e : cs.take (k + 1) = cs.take k ++ [cs[k]?.getD 0] := by
    rw [List.take_succ_eq_append_getElem h]; simp [h]
  rw [e, wsum_append]
  have : (cs.take k).length = k := by simp; omega
  simp [wsum, this]

theorem wsum_bump (f : Nat → Int) : ∀ (cs : List Int) (i v : Nat), v < cs.length → wsum f i (bumpAt cs v) = wsum f i cs + f (i + v)
  | [], i, v, h => by simp at h
  | c :: r, i, 0, h => by simp [bumpAt, wsum, Int.mul_add]; omega
  | c :: r, i, v + 1, h => by
    have := wsum_bump f r (i + 1) v (by simpa using h)
    simp only [bumpAt, List.set_cons_succ, List.getElem?_cons_succ, wsum] at this ⊢
    rw [this, show i + 1 + v = i + (v + 1) by omega]
    omega

theorem wsum_zero (f : Nat → Int) : ∀ (n i : Nat), wsum f i (List.replicate n 0) = 0
  | 0, i => rfl
  | n + 1, i => by simp [List.replicate_succ, wsum, wsum_zero f n (i + 1)]

theorem wsum_cts (f : Nat → Int) : ∀ (zs : List Int) (i : Nat) (cs : List Int), AllB zs → cs.length = 256 → wsum f 0 (cts i cs zs) = wsum f 0 cs + addF (fun z => f z.toNat) i zs
  | [], i, cs, _, _ => by simp [cts, addF]
  | z :: r, i, cs, h, hl => by
    have hb := cntAt_byte i z (h z (by simp))
    rw [cts, wsum_cts f r (i + 1) _ (fun x hx => h x (by simp [hx])) (by rw [bumpAt_length, hl]), wsum_bump f cs 0 _ (by omega), Nat.zero_add, addF]
    omega

theorem wsum_counts (f : Nat → Int) (zs : List Int) (h : AllB zs) : wsum f 0 (countsL zs) = addF (fun z => f z.toNat) 0 zs := by
  unfold countsL
  rw [wsum_cts f zs 0 Z256 h (by rw [Z256, List.length_replicate]), Z256, wsum_zero, Int.zero_add]

def idF (x : Nat) : Int := x
def hiF (x : Nat) : Int := if 128 ≤ x then 1 else 0
def highs (zs : List Int) : Int := wsum hiF 0 (countsL zs)

theorem addF_ext (f g : Int → Int) (hfg : ∀ z, 0 ≤ z → z ≤ 255 → f z = g z) : ∀ (zs : List Int) (i : Nat), AllB zs → addF f i zs = addF g i zs
  | [], i, _ => rfl
  | z :: r, i, h => by
    have hb := cntAt_byte i z (h z (by simp))
    rw [addF, addF, hfg _ hb.1 hb.2, addF_ext f g hfg r (i + 1) (fun x hx => h x (by simp [hx]))]

theorem plain_counts (zs : List Int) (h : AllB zs) : wsum idF 0 (countsL zs) = plainS zs := by
  rw [wsum_counts idF zs h]
  exact addF_ext _ _ (fun z h0 h1 => by simp only [idF, idt]; omega) zs 0 h

theorem addF_parts : ∀ (zs : List Int) (i : Nat), AllB zs → addF sg i zs = addF idt i zs - 256 * addF (fun z => hiF z.toNat) i zs
  | [], i, _ => by simp [addF]
  | z :: r, i, h => by
    have hb := cntAt_byte i z (h z (by simp))
    have ih := addF_parts r (i + 1) (fun x hx => h x (by simp [hx]))
    simp only [addF, ih, idt]
    generalize cntAt i z = c at *
    have : sg c = c - 256 * hiF c.toNat := by
      unfold sg hiF
      by_cases c1 : 127 < c
      · rw [if_pos c1, if_pos (by omega)]; omega
      · rw [if_neg c1, if_neg (by omega)]; omega
    rw [this]
    omega

theorem signed_counts (zs : List Int) (h : AllB zs) : plainS zs - 256 * highs zs = signedS zs := by
  unfold highs
  rw [wsum_counts hiF zs h]
  exact (addF_parts zs 0 h).symm

theorem wsum_bound (f : Nat → Int) (hf : ∀ i, 0 ≤ f i ∧ (i < 256 → f i ≤ 255)) (M : Nat) : ∀ (cs : List Int) (i : Nat), i + cs.length ≤ 256 → Bnd cs M → 0 ≤ wsum f i cs ∧ wsum f i cs ≤ 255 * M * cs.length
  | [], i, _, _ => by simp [wsum]
  | c :: r, i, hl, h => by
    have hc := h c (by simp)
    have hfi := hf i
    have hi : f i ≤ 255 := hfi.2 (by simp at hl; omega)
    have ih := wsum_bound f hf M r (i + 1) (by simp at hl; omega) (fun x hx => h x (by simp [hx]))
    have h1 : 0 ≤ f i * c := Int.mul_nonneg hfi.1 hc.1
    have h2 : f i * c ≤ 255 * M := Int.mul_le_mul hi hc.2 hc.1 (by omega)
    simp only [wsum, List.length_cons, Int.natCast_add, Int.natCast_one, Int.mul_add, Int.mul_one]
    omega

theorem idF_ok : ∀ i, 0 ≤ idF i ∧ (i < 256 → idF i ≤ 255) := fun i => ⟨by unfold idF; omega, fun h => by unfold idF; omega⟩
theorem hiF_ok : ∀ i, 0 ≤ hiF i ∧ (i < 256 → hiF i ≤ 255) := fun i => ⟨by unfold hiF; split <;> omega, fun h => by unfold hiF; split <;> omega⟩

theorem hi_start (cs : List Int) : wsum hiF 0 (cs.take 128) = 0 := by
  have : ∀ (l : List Int) (i : Nat), i + l.length ≤ 128 → wsum hiF i l = 0 := by
    intro l
    induction l with
    | nil => intro i _; rfl
    | cons c r ih =>
      intro i h
      simp only [List.length_cons] at h
      rw [wsum, ih (i + 1) (by omega), hiF, if_neg (by omega)]
      simp
  exact this _ 0 (by simp; omega)

end Go.Proofs.YtmholjjicklnhabDoor
