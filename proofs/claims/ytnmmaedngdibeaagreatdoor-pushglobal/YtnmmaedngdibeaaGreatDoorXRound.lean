/-
  Plain: records that are written are read as they were.
-/
import Derived.Test.YtnmmaedngdibeaaGreatDoorXEnc
namespace Go.Proofs.YtnmmaedngdibeaaGreatDoor.X
open Go.RowKit
set_option linter.unusedVariables false
set_option linter.unusedSimpArgs false

theorem index_append (c : UInt8) : ∀ (l t : List UInt8), (∀ x ∈ l, ¬ x = c) → Lib.indexByte (l ++ c :: t) c = l.length
  | [], t, _ => by simp [Lib.indexByte]
  | b :: l, t, h => by
    have hb : (b == c) = false := beq_eq_false_iff_ne.2 (h b (by simp))
    have ih := index_append c l t (fun x hx => h x (by simp [hx]))
    rw [List.cons_append, Lib.indexByte, hb, ih]
    have : ((l.length : Int) == -1) = false := beq_eq_false_iff_ne.2 (by omega)
    simp [this]

theorem pos_append (c : UInt8) (l t : List UInt8) (h : ∀ x ∈ l, ¬ x = c) : pos (l ++ c :: t) c = some l.length := by
  unfold pos
  rw [index_append c l t h]
  simp

theorem pos_absent (c : UInt8) : ∀ (l : List UInt8), (∀ x ∈ l, ¬ x = c) → pos l c = none := by
  intro l h
  have : Lib.indexByte l c = -1 := by
    induction l with
    | nil => rfl
    | cons b l ih =>
      have hb : (b == c) = false := beq_eq_false_iff_ne.2 (h b (by simp))
      rw [Lib.indexByte, hb, ih (fun x hx => h x (by simp [hx]))]
      rfl
  unfold pos
  rw [this]
  rfl

/-! ### digits -/

theorem dig_range : ∀ (u : Nat), ∀ x ∈ Lib.decDigits u, 48 ≤ x.toNat ∧ x.toNat ≤ 57 := by
  intro u
  induction u using Nat.strongRecOn with
  | _ u ih =>
    intro x hx
    rw [Lib.decDigits] at hx
    split at hx
    · simp only [List.mem_singleton] at hx
      subst hx
      simp
      omega
    · simp only [List.mem_append, List.mem_singleton] at hx
      rcases hx with hx | hx
      · exact ih (u / 10) (by omega) x hx
      · subst hx
        simp
        omega

theorem parseUintM_snoc (M : Nat) (d : UInt8) : ∀ (l : List UInt8) (a b : Nat), Lib.parseUintM M a l = .ok b → Lib.parseUintM M a (l ++ [d]) = Lib.parseUintM M b [d]
  | [], a, b, h => by
    simp only [Lib.parseUintM] at h
    cases h
    rfl
  | c :: l, a, b, h => by
    rw [List.cons_append]
    unfold Lib.parseUintM at h ⊢
    split at h
    · rename_i hc
      rw [if_pos hc]
      split at h
      · cases h
      · rename_i h1
        rw [if_neg h1]
        split at h
        · cases h
        · rename_i h2
          rw [if_neg h2]
          exact parseUintM_snoc M d l _ b h
    · cases h

theorem parse_dec (u : Nat) (h : u ≤ 1000000000000000000) : Lib.parseUintM (2 ^ 64 - 1) 0 (Lib.decDigits u) = .ok u := by
  induction u using Nat.strongRecOn with
  | _ u ih =>
    have p : 2 ^ 64 - 1 = 18446744073709551615 := by decide
    rw [p] at *
    rw [Lib.decDigits]
    split
    · rename_i hu
      have e : (UInt8.ofNat (48 + u)).toNat = 48 + u := by simp; omega
      simp only [Lib.parseUintM, e]
      rw [if_pos (by omega), if_neg (by omega), if_neg (by omega)]
      congr 1
      omega
    · rename_i hu
      rw [parseUintM_snoc _ _ _ _ _ (ih (u / 10) (by omega) (by omega))]
      have e : (UInt8.ofNat (48 + u % 10)).toNat = 48 + u % 10 := by simp; omega
      simp only [Lib.parseUintM, e]
      rw [if_pos (by omega), if_neg (by omega), if_neg (by omega)]
      congr 1
      omega

theorem itoa_nat (n : Nat) : Lib.itoa (n : Int) = Lib.decDigits n := by
  unfold Lib.itoa
  rw [if_neg (by omega)]
  simp

theorem dec_ne (u : Nat) : Lib.decDigits u ≠ [] := by
  rw [Lib.decDigits]
  split <;> simp

theorem parse_itoa (n : Nat) (h : n ≤ 1000000000000000000) : Lib.parseIntB 64 (Lib.itoa (n : Int)) = .ok (n : Int) := by
  rw [itoa_nat]
  have hp := parse_dec n h
  have hr := dig_range n
  have hn := dec_ne n
  generalize Lib.decDigits n = l at *
  cases l with
  | nil => exact absurd rfl hn
  | cons c r =>
    have hc := hr c (by simp)
    unfold Lib.parseIntB
    simp only
    rw [if_neg (by omega)]
    unfold Lib.parseUintB
    rw [if_neg hn, hp]
    simp only
    have p : (2 : Nat) ^ (64 - 1) = 9223372036854775808 := by decide
    rw [p, if_neg (by omega), if_neg (by omega), if_neg (by omega)]

theorem nval_itoa (n : Nat) (h : n ≤ 1000000000000000000) : nval ⟨(Lib.itoa (n : Int)).toArray⟩ = some (n : Int) := by
  unfold nval
  have : (⟨(Lib.itoa (n : Int)).toArray⟩ : ByteArray).data.toList = Lib.itoa (n : Int) := by simp
  rw [this, parse_itoa n h]
  simp [num]

/-! ### a record read -/

theorem body_list (k v : ByteArray) : (bodyS k v).data.toList = 32 :: (k.data.toList ++ 61 :: (v.data.toList ++ [10])) := by
  simp [bodyS, ByteArray.data_append]

theorem key_clean {k : ByteArray} (h : badKey k = false) : ∀ x ∈ k.data.toList, ¬ x = 61 ∧ ¬ x = 0 ∧ ¬ x = 10 := by
  rw [badKey_any] at h
  intro x hx
  have := List.any_eq_false.1 h x hx
  simp at this
  exact ⟨this.1.1, this.1.2, this.2⟩

theorem firstP_rec (k v : ByteArray) (rest : List UInt8) (hb : badKey k = false) (hk : k.size ≤ 100000) (hv : v.size ≤ 100000) :
    firstP (recB k v ++ rest) = (k.data.toList, v.data.toList, (recB k v).length) := by
  have h1 := bodyS_size k v
  have h2 := plen_eq (bodyS k v).size
  have h3 := plen_small (bodyS k v).size (by omega)
  have h4 := itoa_len (plen (bodyS k v).size)
  have h5 := body_list k v
  have hks := Lib.size_eq k
  have hvs := Lib.size_eq v
  have hkc := key_clean hb
  have hdr : ∀ x ∈ Lib.itoa (plen (bodyS k v).size : Int), ¬ x = 32 := by
    rw [itoa_nat]
    intro x hx e
    have := dig_range _ x hx
    subst e
    exact absurd this.1 (by decide)
  have hnv := nval_itoa (plen (bodyS k v).size) (by omega)
  have hlen : (recB k v).length = plen (bodyS k v).size := by
    unfold recB
    rw [List.length_append, h4, ← Lib.size_eq]
    omega
  have hpl : plen ((bodyS k v).size) = plen (bodyS k v).size := rfl
  have hR : recB k v ++ rest = Lib.itoa (plen (bodyS k v).size : Int) ++ 32 :: (k.data.toList ++ 61 :: (v.data.toList ++ 10 :: rest)) := by
    unfold recB
    rw [h5]
    simp
  have hdg : digs (recB k v ++ rest) = Lib.itoa (plen (bodyS k v).size : Int) := by
    unfold digs
    rw [hR, pos_append 32 _ _ hdr]
    simp
  have hall : (recB k v ++ rest).length = plen (bodyS k v).size + rest.length := by rw [List.length_append, hlen]
  unfold firstP
  rw [hdg, hnv]
  simp only [Int.toNat_natCast]
  rw [h4]
  rw [if_neg (by rw [hall]; omega)]
  have e1 : plen (bodyS k v).size - Lib.nDigits (plen (bodyS k v).size) = (bodyS k v).size := by omega
  rw [e1]
  have hlast : (recB k v ++ rest).getD (plen (bodyS k v).size - 1) 0 = 10 := by
    have e : recB k v ++ rest = (Lib.itoa (plen (bodyS k v).size : Int) ++ 32 :: (k.data.toList ++ 61 :: v.data.toList)) ++ 10 :: rest := by rw [hR]; simp
    have hl : (Lib.itoa (plen (bodyS k v).size : Int) ++ 32 :: (k.data.toList ++ 61 :: v.data.toList)).length = plen (bodyS k v).size - 1 := by
      simp only [List.length_append, List.length_cons, h4]
      omega
    rw [e, List.getD, List.getElem?_append_right (by omega), hl, Nat.sub_self]
    rfl
  rw [if_neg (fun h => h.elim (fun h => h rfl) (fun h => h hlast))]
  have hmid : ((recB k v ++ rest).drop (Lib.nDigits (plen (bodyS k v).size) + 1)).take ((bodyS k v).size - 2) = k.data.toList ++ 61 :: v.data.toList := by
    have e : recB k v ++ rest = (Lib.itoa (plen (bodyS k v).size : Int) ++ [32]) ++ ((k.data.toList ++ 61 :: v.data.toList) ++ 10 :: rest) := by rw [hR]; simp
    have hl : (Lib.itoa (plen (bodyS k v).size : Int) ++ [32]).length = Lib.nDigits (plen (bodyS k v).size) + 1 := by simp [h4]
    have hl2 : (k.data.toList ++ 61 :: v.data.toList).length = (bodyS k v).size - 2 := by
      simp only [List.length_append, List.length_cons]
      omega
    rw [e, ← hl, List.drop_left, ← hl2, List.take_left]
  rw [hmid, pos_append 61 _ _ (fun x hx => (hkc x hx).1)]
  simp only [List.take_left, hlen]
  congr 2
  rw [show k.data.toList ++ 61 :: v.data.toList = (k.data.toList ++ [61]) ++ v.data.toList by simp, show k.data.toList.length + 1 = (k.data.toList ++ [61]).length by simp, List.drop_left]

theorem arr_back (k : ByteArray) : (⟨k.data.toList.toArray⟩ : ByteArray) = k := by cases k; simp

theorem dec_rec (f : Nat) (acc : List Rec) (k v : ByteArray) (rest : List UInt8) (hc : chk k v = 0) (hk : k.size ≤ 100000) (hv : v.size ≤ 100000) (ha : acc.length < 64) :
    dec (f + 1) acc (recB k v ++ rest) = dec f (acc ++ [(k, v)]) rest := by
  have hb : badKey k = false := by
    cases h : badKey k with
    | false => rfl
    | true => unfold chk at hc; rw [if_pos (.inr h)] at hc; exact absurd hc (by decide)
  have h := firstP_rec k v rest hb hk hv
  have hl : 0 < (recB k v).length := by
    unfold recB
    rw [List.length_append, body_list]
    simp
    omega
  have hne : ¬ recB k v ++ rest = [] := fun e => by
    have := congrArg List.length e
    rw [List.length_append, List.length_nil] at this
    omega
  have hfk : fk (recB k v ++ rest) = k := by unfold fk; rw [h]
  have hfv : fv (recB k v ++ rest) = v := by unfold fv; rw [h]
  have hfn : fn (recB k v ++ rest) = (recB k v).length := by unfold fn; rw [h]
  rw [dec, if_neg hne, hfk, hfv, hfn, if_neg (by omega), if_neg (by omega), if_neg (by simp [hc]), List.drop_left]

theorem dec_full (f : Nat) (acc : List Rec) (k v : ByteArray) (rest : List UInt8) (hb : badKey k = false) (hk : k.size ≤ 100000) (hv : v.size ≤ 100000) (ha : acc.length = 64) :
    dec (f + 1) acc (recB k v ++ rest) = ([], 2) := by
  have h := firstP_rec k v rest hb hk hv
  have hl : 0 < (recB k v).length := by
    unfold recB
    rw [List.length_append, body_list]
    simp
    omega
  have hne : ¬ recB k v ++ rest = [] := fun e => by
    have := congrArg List.length e
    rw [List.length_append, List.length_nil] at this
    omega
  have hfn : fn (recB k v ++ rest) = (recB k v).length := by unfold fn; rw [h]
  rw [dec, if_neg hne, hfn, if_neg (by omega), if_pos ha]

/-- the bytes of records, the first ahead -/
def encR (rs : List Rec) : List UInt8 := rs.flatMap fun r => recB r.1 r.2

def recs (K V : Nat → ByteArray) (n : Nat) : List Rec := (List.range n).map fun i => (K i, V i)

theorem encL_recs (K V : Nat → ByteArray) : ∀ n, encL K V n = encR (recs K V n)
  | 0 => rfl
  | n + 1 => by
    rw [encL, encL_recs K V n]
    simp [encR, recs, List.range_succ]

/-- may each of them be? -/
def Good (r : Rec) : Prop := chk r.1 r.2 = 0 ∧ r.1.size ≤ 100000 ∧ r.2.size ≤ 100000

theorem dec_encR : ∀ (rs : List Rec) (f : Nat) (acc : List Rec) (rest : List UInt8), (∀ r ∈ rs, Good r) → acc.length + rs.length ≤ 64 → dec (f + rs.length) acc (encR rs ++ rest) = dec f (acc ++ rs) rest
  | [], f, acc, rest, _, _ => by simp [encR]
  | r :: rs, f, acc, rest, hg, hl => by
    have h := hg r (by simp)
    have e : encR (r :: rs) ++ rest = recB r.1 r.2 ++ (encR rs ++ rest) := by simp [encR]
    simp only [List.length_cons] at hl
    rw [e, show f + (r :: rs).length = (f + rs.length) + 1 by simp; omega, dec_rec _ _ _ _ _ h.1 h.2.1 h.2.2 (by omega), dec_encR rs f _ rest (fun x hx => hg x (by simp [hx])) (by simp; omega)]
    simp

theorem encR_len : ∀ rs : List Rec, rs.length ≤ (encR rs).length
  | [] => by simp
  | r :: rs => by
    have ih := encR_len rs
    have : 0 < (recB r.1 r.2).length := by
      unfold recB
      rw [List.length_append, body_list]
      simp
      omega
    have e : encR (r :: rs) = recB r.1 r.2 ++ encR rs := by simp [encR]
    rw [e, List.length_append, List.length_cons]
    omega

/-- what is written is read -/
theorem dec_back (rs : List Rec) (hg : ∀ r ∈ rs, Good r) (hl : rs.length ≤ 64) : dec (encR rs).length [] (encR rs) = (rs, 0) := by
  have h := dec_encR rs ((encR rs).length - rs.length) [] [] hg (by simpa using hl)
  have hle := encR_len rs
  rw [List.append_nil, show (encR rs).length - rs.length + rs.length = (encR rs).length by omega, dec_nil] at h
  simpa using h

end Go.Proofs.YtnmmaedngdibeaaGreatDoor.X
