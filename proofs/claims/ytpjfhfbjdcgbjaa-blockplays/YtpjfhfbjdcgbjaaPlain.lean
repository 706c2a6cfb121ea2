/-
  A store of blocks as plain data: 'Slot' (64 bytes, how often it is held), the cells in which a list of slots lies, and what writing into these cells makes of the list.
-/
import Derived.Test.YtpjfhfbjdcgbjaaChecked
import Derived.WalkKit
import Derived.Laws.CopyOwn
namespace Go.Proofs.Ytpjfhfbjdcgbjaa
open Go.RowKit
set_option linter.unusedVariables false
set_option linter.unusedSimpArgs false

structure Slot where
  bytes : List Int
  holds : Nat

def zeros (n : Nat) : List Int := List.replicate n 0
def Slot.none : Slot := ⟨zeros 64, 0⟩

def cellsOf (zs : List Int) : List Value := zs.map (Value.int .u8)
def slotCells (s : Slot) : List Value := cellsOf s.bytes ++ [.int .i64 (s.holds : Int)]
def rowCells : List Slot → List Value
  | [] => []
  | s :: r => slotCells s ++ rowCells r
def idCells (ns : List Nat) : List Value := ns.map fun n : Nat => Value.int .i64 (n : Int)

theorem cellsOf_length (zs : List Int) : (cellsOf zs).length = zs.length := by simp [cellsOf]
theorem idCells_length (zs : List Nat) : (idCells zs).length = zs.length := by simp [idCells]
theorem zeros_length (n : Nat) : (zeros n).length = n := by simp [zeros]
theorem cellsOf_splice (L : List Int) (o : Nat) (c : List Int) : cellsOf (splice L o c) = splice (cellsOf L) o (cellsOf c) := by simp [cellsOf, splice]

def Whole (ss : List Slot) : Prop := ∀ s ∈ ss, s.bytes.length = 64

theorem rowCells_append : ∀ (a b : List Slot), rowCells (a ++ b) = rowCells a ++ rowCells b
  | [], b => rfl
  | s :: r, b => by simp [rowCells, rowCells_append r b]

theorem slotCells_length (s : Slot) (h : s.bytes.length = 64) : (slotCells s).length = 65 := by simp [slotCells, cellsOf, h]

theorem rowCells_length : ∀ (ss : List Slot), Whole ss → (rowCells ss).length = 65 * ss.length
  | [], _ => rfl
  | s :: r, h => by
    have := rowCells_length r (fun x hx => h x (by simp [hx]))
    have := slotCells_length s (h s (by simp))
    simp [rowCells]; omega

/-- the list round one slot -/
theorem parted (ss : List Slot) (i : Nat) (s : Slot) (h : ss[i]? = some s) : ss = ss.take i ++ s :: ss.drop (i + 1) := by
  obtain ⟨hi, rfl⟩ := List.getElem?_eq_some_iff.1 h
  rw [← List.drop_eq_getElem_cons hi, List.take_append_drop]

theorem row_parted (ss : List Slot) (i : Nat) (s : Slot) (h : ss[i]? = some s) : rowCells ss = rowCells (ss.take i) ++ (slotCells s ++ rowCells (ss.drop (i + 1))) := by
  rw [show rowCells ss = rowCells (ss.take i ++ s :: ss.drop (i + 1)) by rw [← parted ss i s h], rowCells_append]; rfl

theorem lt_of_some {ss : List Slot} {i : Nat} {s : Slot} (h : ss[i]? = some s) : i < ss.length := (List.getElem?_eq_some_iff.1 h).1
theorem mem_of_some {ss : List Slot} {i : Nat} {s : Slot} (h : ss[i]? = some s) : s ∈ ss := List.mem_of_getElem? h

theorem take_length (ss : List Slot) (i : Nat) (s : Slot) (h : ss[i]? = some s) (hw : Whole ss) : (rowCells (ss.take i)).length = 65 * i := by
  rw [rowCells_length _ (fun x hx => hw x (List.mem_of_mem_take hx))]
  have := lt_of_some h
  simp; omega

theorem row_get (ss : List Slot) (i : Nat) (s : Slot) (h : ss[i]? = some s) (hw : Whole ss) (j : Nat) (hj : j < 65) : (rowCells ss)[65 * i + j]? = (slotCells s)[j]? := by
  rw [row_parted ss i s h, List.getElem?_append_right (by rw [take_length ss i s h hw]; omega), take_length ss i s h hw, List.getElem?_append_left (by rw [slotCells_length s (hw s (mem_of_some h))]; omega)]
  congr 1; omega

theorem row_holds (ss : List Slot) (i : Nat) (s : Slot) (h : ss[i]? = some s) (hw : Whole ss) : (rowCells ss)[65 * i + 64]? = some (.int .i64 (s.holds : Int)) := by
  rw [row_get ss i s h hw 64 (by omega)]
  have := hw s (mem_of_some h)
  simp [slotCells, cellsOf, this]

theorem row_byte (ss : List Slot) (i : Nat) (s : Slot) (h : ss[i]? = some s) (hw : Whole ss) (j : Nat) (hj : j < 64) : (rowCells ss)[65 * i + j]? = (cellsOf s.bytes)[j]? := by
  rw [row_get ss i s h hw j (by omega), slotCells, List.getElem?_append_left (by rw [cellsOf_length, hw s (mem_of_some h)]; omega)]

theorem set_parted (ss : List Slot) (i : Nat) (s t : Slot) (h : ss[i]? = some s) : ss.set i t = ss.take i ++ t :: ss.drop (i + 1) := by
  have := lt_of_some h
  rw [List.set_eq_take_append_cons_drop, if_pos this]

theorem splice_mid {α : Type} (A B C cs : List α) (off : Nat) (h : off + cs.length ≤ B.length) : splice (A ++ (B ++ C)) (A.length + off) cs = A ++ (splice B off cs ++ C) := by
  unfold splice
  rw [List.take_length_add_append, List.take_append_of_le_length (by omega), Nat.add_assoc, List.drop_length_add_append, List.drop_append_of_le_length h]
  simp

/-- cells written inside one slot -/
theorem row_splice (ss : List Slot) (i : Nat) (s t : Slot) (h : ss[i]? = some s) (hw : Whole ss) (off : Nat) (cs : List Value) (hf : off + cs.length ≤ 65) (ht : splice (slotCells s) off cs = slotCells t) :
    splice (rowCells ss) (65 * i + off) cs = rowCells (ss.set i t) := by
  rw [row_parted ss i s h, set_parted ss i s t h, rowCells_append, ← take_length ss i s h hw, splice_mid _ _ _ _ _ (by rw [slotCells_length s (hw s (mem_of_some h))]; omega), ht]
  rfl

theorem splice_left {α : Type} (A B cs : List α) (off : Nat) (h : off + cs.length ≤ A.length) : splice (A ++ B) off cs = splice A off cs ++ B := by
  unfold splice
  rw [List.take_append_of_le_length (by omega), List.drop_append_of_le_length h]
  simp

theorem splice_set {α : Type} (L : List α) (k : Nat) (v : α) (h : k < L.length) : splice L k [v] = L.set k v := by
  rw [List.set_eq_take_append_cons_drop, if_pos h]; rfl

theorem slot_holds (s : Slot) (n : Nat) (h : s.bytes.length = 64) : splice (slotCells s) 64 [.int .i64 (n : Int)] = slotCells ⟨s.bytes, n⟩ := by
  rw [splice_set _ _ _ (by rw [slotCells_length s h]; omega)]
  unfold slotCells
  rw [List.set_append_right _ _ (by rw [cellsOf_length]; omega)]
  simp [cellsOf_length, h]

theorem slot_bytes (s : Slot) (at_ : Nat) (c : List Int) (h : s.bytes.length = 64) (hf : at_ + c.length ≤ 64) : splice (slotCells s) at_ (cellsOf c) = slotCells ⟨splice s.bytes at_ c, s.holds⟩ := by
  unfold slotCells
  rw [splice_left _ _ _ _ (by rw [cellsOf_length, cellsOf_length]; omega), cellsOf_splice]

theorem splice_all {α : Type} (L cs : List α) (h : L.length = cs.length) : splice L 0 cs = cs := by
  unfold splice; rw [Nat.zero_add, ← h]; simp

theorem slot_all (s t : Slot) (h : s.bytes.length = 64) (ht : t.bytes.length = 64) : splice (slotCells s) 0 (slotCells t) = slotCells t :=
  splice_all _ _ (by rw [slotCells_length s h, slotCells_length t ht])

/-- the row behind one number written -/
theorem row_set_holds (ss : List Slot) (i : Nat) (s : Slot) (h : ss[i]? = some s) (hw : Whole ss) (n : Nat) : (rowCells ss).set (65 * i + 64) (.int .i64 (n : Int)) = rowCells (ss.set i ⟨s.bytes, n⟩) := by
  rw [← row_splice ss i s _ h hw 64 [.int .i64 (n : Int)] (by simp) (slot_holds s n (hw s (mem_of_some h))), splice_set]
  rw [rowCells_length _ hw]
  have := lt_of_some h
  omega

theorem row_set_bytes (ss : List Slot) (i : Nat) (s : Slot) (h : ss[i]? = some s) (hw : Whole ss) (at_ : Nat) (c : List Int) (hf : at_ + c.length ≤ 64) :
    splice (rowCells ss) (65 * i + at_) (cellsOf c) = rowCells (ss.set i ⟨splice s.bytes at_ c, s.holds⟩) :=
  row_splice ss i s _ h hw at_ _ (by rw [cellsOf_length]; omega) (slot_bytes s at_ c (hw s (mem_of_some h)) hf)

theorem row_set_all (ss : List Slot) (i : Nat) (s t : Slot) (h : ss[i]? = some s) (hw : Whole ss) (ht : t.bytes.length = 64) :
    splice (rowCells ss) (65 * i) (slotCells t) = rowCells (ss.set i t) :=
  row_splice ss i s _ h hw 0 _ (by rw [slotCells_length t ht]; omega) (slot_all s t (hw s (mem_of_some h)) ht)

theorem whole_set (ss : List Slot) (i : Nat) (t : Slot) (hw : Whole ss) (ht : t.bytes.length = 64) : Whole (ss.set i t) := by
  intro x hx
  rcases List.mem_or_eq_of_mem_set hx with h | h
  · exact hw x h
  · rw [h]; exact ht

/-- What holds of a store's data: 'fr' are the free ones. -/
structure Good (ss : List Slot) (fr : List Nat) : Prop where
  small : ss.length ≤ 16384
  whole : Whole ss
  most : ∀ s ∈ ss, s.holds ≤ 1073741824
  nodup : fr.Nodup
  isFree : ∀ i, i ∈ fr ↔ ∃ s, ss[i]? = some s ∧ s.holds = 0
  zero : ∀ s ∈ ss, s.holds = 0 → s.bytes = zeros 64

theorem Good.lt {ss : List Slot} {fr : List Nat} (g : Good ss fr) {i : Nat} (h : i ∈ fr) : i < ss.length := by
  obtain ⟨s, h1, _⟩ := (g.isFree i).1 h
  exact lt_of_some h1

theorem length_le_of_nodup_lt : ∀ (n : Nat) (l : List Nat), l.Nodup → (∀ x ∈ l, x < n) → l.length ≤ n
  | 0, l, _, h => by
    cases l with
    | nil => simp
    | cons a r => exact absurd (h a (by simp)) (by omega)
  | n + 1, l, hn, h => by
    have h1 := length_le_of_nodup_lt n (l.erase n) (hn.erase n) (fun x hx => by
      have := h x (List.mem_of_mem_erase hx)
      have : x ≠ n := fun e => by subst e; exact (List.Nodup.not_mem_erase hn) hx
      omega)
    have := List.length_erase_le (a := n) (l := l)
    by_cases hm : n ∈ l
    · rw [List.length_erase_of_mem hm] at h1; omega
    · rw [List.erase_of_not_mem hm] at h1; omega

theorem Good.le {ss : List Slot} {fr : List Nat} (g : Good ss fr) : fr.length ≤ ss.length :=
  length_le_of_nodup_lt _ _ g.nodup (fun _ hx => g.lt hx)

/-- while one is held not all are free -/
theorem Good.room {ss : List Slot} {fr : List Nat} (g : Good ss fr) {i : Nat} {s : Slot} (h : ss[i]? = some s) (hh : s.holds ≠ 0) : fr.length < ss.length := by
  have hi : i ∉ fr := fun hm => by
    obtain ⟨s', h1, h2⟩ := (g.isFree i).1 hm
    rw [h] at h1; cases h1; exact hh h2
  have := length_le_of_nodup_lt ss.length (i :: fr) (List.nodup_cons.2 ⟨hi, g.nodup⟩) (fun x hx => by
    rcases List.mem_cons.1 hx with rfl | hx
    · exact lt_of_some h
    · exact g.lt hx)
  simp at this; omega

theorem set_get (ss : List Slot) (i j : Nat) (t : Slot) : (ss.set i t)[j]? = if j = i ∧ i < ss.length then some t else ss[j]? := by
  rw [List.getElem?_set]
  by_cases h : i = j
  · subst h
    by_cases h2 : i < ss.length
    · simp [h2]
    · simp [h2]
  · simp [h]; intro e; exact absurd e.symm h

/-- one slot turned, held before and behind -/
theorem Good.set_held {ss : List Slot} {fr : List Nat} (g : Good ss fr) {i : Nat} {s t : Slot} (h : ss[i]? = some s) (hh : s.holds ≠ 0) (ht : t.holds ≠ 0) (hm : t.holds ≤ 1073741824) (hb : t.bytes.length = 64) : Good (ss.set i t) fr := by
  refine ⟨by simpa using g.small, whole_set _ _ _ g.whole hb, ?_, g.nodup, ?_, ?_⟩
  · intro x hx
    rcases List.mem_or_eq_of_mem_set hx with h | h
    · exact g.most x h
    · rw [h]; exact hm
  · intro j
    rw [g.isFree j]
    constructor
    · rintro ⟨x, h1, h2⟩
      refine ⟨x, ?_, h2⟩
      rw [set_get, if_neg]
      · exact h1
      · rintro ⟨rfl, _⟩; rw [h] at h1; cases h1; exact hh h2
    · rintro ⟨x, h1, h2⟩
      rw [set_get] at h1
      split at h1
      · cases h1; exact absurd h2 ht
      · exact ⟨x, h1, h2⟩
  · intro x hx h0
    rcases List.mem_or_eq_of_mem_set hx with h | h
    · exact g.zero x h h0
    · rw [h] at h0; exact absurd h0 ht

/-- a free one taken -/
theorem Good.take {ss : List Slot} {l : List Nat} {i : Nat} (g : Good ss (l ++ [i])) : Good (ss.set i ⟨zeros 64, 1⟩) l ∧ ss[i]? = some Slot.none := by
  obtain ⟨s, h, h0⟩ := (g.isFree i).1 (by simp)
  have hn := g.nodup
  rw [List.nodup_append] at hn
  obtain ⟨hl, _, hd⟩ := hn
  have hi : i ∉ l := fun hm => hd i hm i (by simp) rfl
  have hz := g.zero s (mem_of_some h) h0
  refine ⟨⟨by simpa using g.small, whole_set _ _ _ g.whole (by simp [zeros]), ?_, hl, ?_, ?_⟩, ?_⟩
  · intro x hx
    rcases List.mem_or_eq_of_mem_set hx with h | h
    · exact g.most x h
    · rw [h]; decide
  · intro j
    have := g.isFree j
    constructor
    · intro hj
      obtain ⟨x, h1, h2⟩ := this.1 (by simp [hj])
      refine ⟨x, ?_, h2⟩
      rw [set_get, if_neg]
      · exact h1
      · rintro ⟨rfl, _⟩; exact hi hj
    · rintro ⟨x, h1, h2⟩
      rw [set_get] at h1
      split at h1
      · cases h1; simp at h2
      · rename_i hne
        have hm := this.2 ⟨x, h1, h2⟩
        rcases List.mem_append.1 hm with hm | hm
        · exact hm
        · simp at hm; subst hm; exact absurd ⟨rfl, lt_of_some h⟩ hne
  · intro x hx h1
    rcases List.mem_or_eq_of_mem_set hx with h | h
    · exact g.zero x h h1
    · rw [h] at h1; simp at h1
  · rw [h]; cases s; simp at h0 hz; subst h0 hz; rfl

/-- one that was held once is free -/
theorem Good.drop {ss : List Slot} {fr : List Nat} (g : Good ss fr) {i : Nat} {s : Slot} (h : ss[i]? = some s) (hh : s.holds ≠ 0) : Good (ss.set i Slot.none) (fr ++ [i]) := by
  have hi : i ∉ fr := fun hm => by
    obtain ⟨s', h1, h2⟩ := (g.isFree i).1 hm
    rw [h] at h1; cases h1; exact hh h2
  refine ⟨by simpa using g.small, whole_set _ _ _ g.whole (by simp [Slot.none, zeros]), ?_, ?_, ?_, ?_⟩
  · intro x hx
    rcases List.mem_or_eq_of_mem_set hx with h | h
    · exact g.most x h
    · rw [h]; simp [Slot.none]
  · rw [List.nodup_append]
    refine ⟨g.nodup, by simp, ?_⟩
    intro a ha b hb e
    simp at hb
    subst e hb
    exact hi ha
  · intro j
    rw [List.mem_append, g.isFree j, set_get]
    constructor
    · rintro (⟨x, h1, h2⟩ | hj)
      · refine ⟨x, ?_, h2⟩
        rw [if_neg]
        · exact h1
        · rintro ⟨rfl, _⟩; rw [h] at h1; cases h1; exact hh h2
      · simp at hj; subst hj
        exact ⟨Slot.none, by rw [if_pos ⟨rfl, lt_of_some h⟩], rfl⟩
    · rintro ⟨x, h1, h2⟩
      split at h1
      · rename_i hc; right; simp [hc.1]
      · left; exact ⟨x, h1, h2⟩
  · intro x hx h1
    rcases List.mem_or_eq_of_mem_set hx with h | h
    · exact g.zero x h h1
    · rw [h]; rfl

theorem Good.new (n : Nat) (hn : n ≤ 16384) (fr : List Nat) (hf : fr.Nodup) (hm : ∀ i, i ∈ fr ↔ i < n) : Good (List.replicate n Slot.none) fr := by
  refine ⟨by simpa using hn, ?_, ?_, hf, ?_, ?_⟩
  · intro s hs; rw [(List.mem_replicate.1 hs).2]; simp [Slot.none, zeros]
  · intro s hs; rw [(List.mem_replicate.1 hs).2]; simp [Slot.none]
  · intro i
    rw [hm i]
    constructor
    · intro h; exact ⟨Slot.none, by simp [h], rfl⟩
    · rintro ⟨s, h1, _⟩
      have := lt_of_some h1
      simpa using this
  · intro s hs _; rw [(List.mem_replicate.1 hs).2]; rfl

end Go.Proofs.Ytpjfhfbjdcgbjaa
