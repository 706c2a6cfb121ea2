/-
  Plain: a number among blanks.
-/
import Derived.Test.YtamdonhmholjpabPlain2
import Derived.Test.YtamdonhmholjpabBinary
import Derived.Lib.AppendStr
namespace Go.Proofs.Ytamdonhmholjpab.octalBlank
open Go.Proofs.Ytamdonhmholjpab.octalBinary (cellsOf)

def tl (q : Nat) : List Int := (List.range q).map fun i : Nat => (i : Int) % 2 * 32

theorem tl_snoc (q : Nat) : tl q ++ [(q : Int) % 2 * 32] = tl (q + 1) := by simp [tl, List.range_succ]
theorem tl_length (q : Nat) : (tl q).length = q := by simp [tl]
theorem tl_mem (q : Nat) : ∀ z ∈ tl q, z = 0 ∨ z = 32 := by
  intro z hz
  simp only [tl, List.mem_map] at hz
  obtain ⟨i, _, rfl⟩ := hz
  omega

def fld (p : Nat) (n : Int) (q : Nat) : List Int := List.replicate p 32 ++ octs n (odig n.toNat) ++ tl q

theorem dgo_blanks (p : Nat) (r : List Int) : dgo (List.replicate p 32 ++ r) 0 0 = dgo r 0 0 := by
  induction p with
  | zero => rfl
  | succ p ih => rw [List.replicate_succ, List.cons_append, ← ih]; simp [dgo, dstep]

theorem dgo_white (t : List Int) (ht : ∀ z ∈ t, z = 0 ∨ z = 32) (N p : Int) : dgo t N p = some N := by
  induction t generalizing p with
  | nil => rfl
  | cons b r ih =>
    have hb := ht b (by simp)
    have hr : ∀ z ∈ r, z = 0 ∨ z = 32 := fun z hz => ht z (by simp [hz])
    rw [dgo, dstep]
    by_cases c : b = 32 ∧ p = 0
    · rw [if_pos c]; exact ih hr 0
    · rw [if_neg c, if_neg (by omega), if_pos (by omega)]; exact ih hr 2

theorem dgo_tail (t : List Int) (ht : ∀ z ∈ t, z = 0 ∨ z = 32) (N p odd : Int) (hp : ¬ p = 0) : dgo (t ++ [32, odd]) N p = if odd = 0 ∨ odd = 32 then some N else none := by
  induction t generalizing p with
  | nil =>
    rw [List.nil_append, dgo, dstep, if_neg (by omega), if_neg (by omega), if_pos (by omega)]
    show dgo [odd] N 2 = _
    rw [dgo, dstep, if_neg (by omega), if_neg (by omega)]
    by_cases c : odd = 0 ∨ odd = 32
    · rw [if_pos c, if_pos (by omega)]; rfl
    · rw [if_neg c, if_neg (by omega)]
  | cons b r ih =>
    have hb := ht b (by simp)
    rw [List.cons_append, dgo, dstep, if_neg (by omega), if_neg (by omega), if_pos (by omega)]
    exact ih (fun z hz => ht z (by simp [hz])) 2 (by decide)

theorem fld_cons (p : Nat) (n : Int) (q : Nat) (r : List Int) : ∃ z t, fld p n q ++ r = z :: t ∧ z < 128 := by
  cases p with
  | succ p => exact ⟨32, List.replicate p 32 ++ octs n (odig n.toNat) ++ tl q ++ r, by simp [fld, List.replicate_succ], by decide⟩
  | zero =>
    obtain ⟨d, hd⟩ : ∃ d, odig n.toNat = d + 1 := ⟨odig n.toNat - 1, by have := odig_pos n.toNat; omega⟩
    obtain ⟨z, t, e, _, h2⟩ := octs_cons n d
    refine ⟨z, t ++ tl q ++ r, ?_, by omega⟩
    rw [fld, hd, e]; simp

theorem parse_fld (p : Nat) (n : Int) (q : Nat) (r : List Int) (h0 : 0 ≤ n) (h1 : n ≤ 9223372036854775807) : parseO (fld p n q ++ r) = dgo (tl q ++ r) n 1 := by
  obtain ⟨z, t, e, hz⟩ := fld_cons p n q r
  have : parseO (fld p n q ++ r) = dgo (fld p n q ++ r) 0 0 := by rw [e]; simp [parseO, hz]
  rw [this]
  obtain ⟨d, hd⟩ : ∃ d, odig n.toNat = d + 1 := ⟨odig n.toNat - 1, by have := odig_pos n.toNat; omega⟩
  have hb := odig_lt' n h0 h1
  rw [hd] at hb
  rw [fld, List.append_assoc, List.append_assoc, dgo_blanks, hd, dgo_octs d n 0 _ (by decide) h0 hb h1]

theorem parse_fld0 (p : Nat) (n : Int) (q : Nat) (h0 : 0 ≤ n) (h1 : n ≤ 9223372036854775807) : parseO (fld p n q) = some n := by
  have := parse_fld p n q [] h0 h1
  rw [List.append_nil, List.append_nil] at this
  rw [this, dgo_white (tl q) (tl_mem q)]

theorem parse_fld2 (p : Nat) (n : Int) (q : Nat) (odd : Int) (h0 : 0 ≤ n) (h1 : n ≤ 9223372036854775807) : parseO (fld p n q ++ [32, odd]) = if odd = 0 ∨ odd = 32 then some n else none := by
  rw [parse_fld p n q _ h0 h1, dgo_tail (tl q) (tl_mem q) n 1 odd (by decide)]

theorem fld_bytes (p : Nat) (n : Int) (q : Nat) : ∀ z ∈ fld p n q, 0 ≤ z ∧ z ≤ 255 := by
  intro z hz
  simp only [fld, List.mem_append, List.mem_replicate] at hz
  rcases hz with (⟨_, rfl⟩ | h) | h
  · omega
  · have := octs_mem _ _ z h; omega
  · have := tl_mem q z h; omega

theorem fld_length (p : Nat) (n : Int) (q : Nat) : (fld p n q).length = p + odig n.toNat + q := by simp [fld, octs_length, tl_length]; omega

theorem strCells_octs (n : Int) (k : Nat) : Lib.strCells (strOf (octs n k)) = cellsOf (octs n k) := by
  have h := strOf_toList (octs n k)
  rw [ByteArray.toList_eq] at h
  rw [Lib.strCells, h, u8s, cellsOf, List.map_map]
  apply List.map_congr_left
  intro z hz
  have := octs_mem n k z hz
  simp only [Function.comp, UInt8.toNat_ofNat']
  congr 1
  omega

end Go.Proofs.Ytamdonhmholjpab.octalBlank
