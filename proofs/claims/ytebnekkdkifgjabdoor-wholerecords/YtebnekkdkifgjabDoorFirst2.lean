/-
  Contract: pax.first as one, over a plain function.
-/
import Derived.Test.YtebnekkdkifgjabDoorFirst
namespace Go.Proofs.YtebnekkdkifgjabDoor
open Go.RowKit
set_option linter.unusedVariables false
set_option linter.unusedSimpArgs false

theorem indexByte_get (c : UInt8) : ∀ (l : List UInt8) (i : Nat), Lib.indexByte l c = i → l.getD i 0 = c ∧ ∀ j, j < i → ¬ l.getD j 0 = c
  | [], i, h => by simp [Lib.indexByte] at h
  | b :: l, i, h => by
    unfold Lib.indexByte at h
    split at h
    · rename_i hb
      obtain rfl : i = 0 := by omega
      exact ⟨by simpa using hb, fun j hj => absurd hj (Nat.not_lt_zero _)⟩
    · rename_i hb
      split at h
      · omega
      · rename_i hn
        have hg := indexByte_ge c l
        obtain ⟨k, rfl⟩ : ∃ k, i = k + 1 := ⟨i - 1, by
          have : ¬ Lib.indexByte l c = -1 := by simpa using hn
          omega⟩
        have ih := indexByte_get c l k (by omega)
        refine ⟨by simpa using ih.1, fun j hj => ?_⟩
        cases j with
        | zero => simpa using hb
        | succ j => simpa using ih.2 j (by omega)

theorem pos_get {bs : List UInt8} {c : UInt8} {i : Nat} (h : pos bs c = some i) : bs.getD i 0 = c ∧ ∀ j, j < i → ¬ bs.getD j 0 = c := indexByte_get c bs i (pos_some h).1

/-- behind the digits stands a blank -/
theorem digs_blank {bs : List UInt8} (h : (digs bs).length < bs.length) : bs.getD (digs bs).length 0 = 32 := by
  unfold digs at h ⊢
  cases hp : pos bs 32 with
  | none => rw [hp] at h; simp at h
  | some i =>
    have := pos_some hp
    have hl : (bs.take i).length = i := by simp; omega
    simp only [hl]
    exact (pos_get hp).1

theorem first_w (b o cap : Nat) (bs : List UInt8) (w : World) (hB : BytesAt w b o bs) (hcap : bs.length ≤ cap) (hbig : cap ≤ 9223372036854775807) (hlen : bs.length ≤ 281474976710656) (ht : Vs w) :
    Calls Tryd.prog 15 #[.slice (some ⟨b, o, none⟩) bs.length cap] w fun e w' => e = .returned (.tuple #[.agg #[.string ⟨(firstP bs).1.toArray⟩, .string ⟨(firstP bs).2.1.toArray⟩], .int .i64 ((firstP bs).2.2 : Int)]) ∧ Below w.heap.size w w' := by
  have hd := digs_le bs
  unfold firstP
  cases hnv : nval ⟨(digs bs).toArray⟩ with
  | none => exact first_nan b o cap bs w hB hcap hbig hlen ht hnv
  | some z =>
    simp only
    by_cases h1 : z ≤ (digs bs).length
    · rw [if_pos (.inl h1)]
      exact first_low b o cap bs w hB hcap hbig hlen ht z hnv h1
    by_cases h2 : (bs.length : Int) < z
    · rw [if_pos (.inr h2)]
      exact first_high b o cap bs w hB hcap hbig hlen ht z hnv h1 h2
    rw [if_neg (by omega)]
    obtain ⟨M, rfl⟩ : ∃ M : Nat, z = M := ⟨z.toNat, by omega⟩
    rw [show ((M : Int)).toNat = M by omega]
    obtain ⟨l, hl⟩ : ∃ l, (digs bs).length + (l + 1) = M := ⟨M - (digs bs).length - 1, by omega⟩
    have e1 : M - (digs bs).length = l + 1 := by omega
    rw [e1]
    by_cases h3 : plen (l + 1) = M
    · by_cases h4 : bs.getD (M - 1) 0 = 10
      · rw [if_neg (fun h => h.elim (fun h => h h3) (fun h => h h4))]
        have hl0 : l ≠ 0 := by
          rintro rfl
          have := digs_blank (bs := bs) (by omega)
          rw [show M - 1 = (digs bs).length by omega, this] at h4
          exact absurd h4 (by decide)
        obtain ⟨m, rfl⟩ : ∃ m, l = m + 1 := ⟨l - 1, by omega⟩
        rw [show m + 1 + 1 - 2 = m by omega]
        cases hx : pos ((bs.drop ((digs bs).length + 1)).take m) 61 with
        | none => exact first_nokey b o cap bs w hB hcap hbig hlen ht M m hl (by omega) hnv h3 h4 hx
        | some i => exact first_yes b o cap bs w hB hcap hbig hlen ht M m hl (by omega) hnv h3 h4 i hx
      · rw [if_pos (.inr h4)]
        exact first_last b o cap bs w hB hcap hbig hlen ht M l hl (by omega) hnv h3 h4
    · rw [if_pos (.inl h3)]
      exact first_len b o cap bs w hB hcap hbig hlen ht M l hl (by omega) hnv h3

theorem firstP_len (bs : List UInt8) : (firstP bs).2.2 ≤ bs.length := by
  unfold firstP
  split
  · simp
  · split
    · simp
    · split
      · simp
      · split
        · simp
        · simp only; omega

theorem firstP_sizes (bs : List UInt8) : (firstP bs).1.length ≤ bs.length ∧ (firstP bs).2.1.length ≤ bs.length := by
  unfold firstP
  split
  · simp
  · split
    · simp
    · split
      · simp
      · split
        · simp
        · simp only [List.length_take, List.length_drop]
          omega

end Go.Proofs.YtebnekkdkifgjabDoor
