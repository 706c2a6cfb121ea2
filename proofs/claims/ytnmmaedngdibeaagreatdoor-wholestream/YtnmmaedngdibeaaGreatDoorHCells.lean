/-
  Slices of bytes: where their bytes lie; cut, made a string, copied.
-/
import Derived.Test.YtnmmaedngdibeaaGreatDoorHStr
import Derived.Test.YtnmmaedngdibeaaGreatDoorHRight
import Derived.Test.YtnmmaedngdibeaaGreatDoorHLaws
import Derived.Test.YtnmmaedngdibeaaGreatDoorHFormat
import Derived.Below
namespace Go.Proofs.YtnmmaedngdibeaaGreatDoor.H
open Go.RowKit
set_option linter.unusedVariables false
set_option linter.unusedSimpArgs false

def cellsOf (zs : List Int) : List Value := zs.map (Value.int .u8)
theorem cellsOf_length (zs : List Int) : (cellsOf zs).length = zs.length := by simp [cellsOf]
theorem cellsOf_splice (L : List Int) (o : Nat) (c : List Int) : cellsOf (splice L o c) = splice (cellsOf L) o (cellsOf c) := by simp [cellsOf, splice]
theorem row_cells (zs : List Int) : row zs = (cellsOf zs).toArray := rfl
theorem oneCell_bytes (zs : List Int) : ∀ v ∈ cellsOf zs, v.oneCell' = true := by
  intro v hv
  simp [cellsOf] at hv
  obtain ⟨z, _, rfl⟩ := hv
  rfl

/-- where a slice's bytes lie -/
def Src (w : World) (a : Option Addr) (zs : List Int) : Prop := 0 < zs.length → ∃ ad, a = some ad ∧ ∀ j v, (cellsOf zs)[j]? = some v → w.cell? (ad.add j) = some v

theorem Src.cell {w : World} {ad : Addr} {zs : List Int} (h : Src w (some ad) zs) (j : Nat) (hj : j < zs.length) : w.cell? (ad.add j) = some (.int .u8 (zs[j]?.getD 0)) := by
  obtain ⟨ad', h1, h2⟩ := h (by omega)
  cases h1
  exact h2 j _ (by simp [cellsOf, hj])

theorem Src.has {w : World} {a : Option Addr} {zs : List Int} (h : Src w a zs) (h0 : 0 < zs.length) : ∃ ad, a = some ad := by
  obtain ⟨ad, h1, _⟩ := h h0
  exact ⟨ad, h1⟩

theorem conv_src (w : World) (a : Option Addr) (zs : List Int) (n cap : Nat) (hn : zs.length = n) (h : Src w a zs) :
    (convert 22 9 (.slice a n cap)).run Tryz.prog w = .ok (.string (strOf zs)) w := by
  subst hn
  rw [run_convert_bytes_string w 22 9 5 _ _ _ Tryz.underlying22 Tryz.underlying5 Tryz.underlying9]
  cases a with
  | none =>
    have : zs = [] := by
      rcases Nat.eq_zero_or_pos zs.length with h0 | h0
      · exact List.eq_nil_of_length_eq_zero h0
      · obtain ⟨ad, h1, _⟩ := h h0; cases h1
    subst this
    rfl
  | some ad =>
    refine run_bytesToString w _ _ _ zs ?_
    have hl := run_loadCells_list (P := Tryz.prog) (w := w) ad (cellsOf zs) (fun j v hj => by
      have h0 : 0 < zs.length := by
        have := (List.getElem?_eq_some_iff.1 hj).1
        rw [cellsOf_length] at this; omega
      obtain ⟨ad', h1, h2⟩ := h h0
      cases h1
      exact h2 j v hj)
    rw [cellsOf_length] at hl
    simpa [cellsOf] using hl

theorem src_row {w : World} {g : Nat} {t : TypeId} {fz : Nat × Nat} (zs : List Int) (h : w.heap[g]? = some (.cells (row zs) t fz)) : Src w (some ⟨g, 0, none⟩) zs := by
  intro _
  refine ⟨_, rfl, fun j v hv => ?_⟩
  have e1 : (⟨g, 0, none⟩ : Addr).add j = ⟨g, j, none⟩ := by unfold Addr.add; split <;> simp_all
  rw [e1]
  simp only [World.cell?, h]
  simpa [row_cells] using hv

theorem src_alloc (w : World) (zs : List Int) (t : TypeId) : Src (w.alloc (.cells (row zs) t)) (some ⟨w.heap.size, 0, none⟩) zs := src_row zs (heap_alloc_new w _)

theorem Src.moved {w w' : World} {a : Option Addr} {zs : List Int} (h : Src w a zs) (hb : ∀ ad, a = some ad → w'.heap[ad.block]? = w.heap[ad.block]?) : Src w' a zs := by
  intro h0
  obtain ⟨ad, h1, h2⟩ := h h0
  refine ⟨ad, h1, fun j v hv => ?_⟩
  rw [← h2 j v hv]
  refine World.cell?_of_block ?_
  have : (ad.add j).block = ad.block := by unfold Addr.add; split <;> rfl
  rw [this]
  exact hb ad h1

theorem Src.lt {w : World} {ad : Addr} {zs : List Int} (h : Src w (some ad) zs) (h0 : 0 < zs.length) : ad.block < w.heap.size := by
  obtain ⟨ad', h1, h2⟩ := h h0
  cases h1
  have hl : 0 < (cellsOf zs).length := by rw [cellsOf_length]; omega
  have hz := List.getElem?_eq_getElem hl
  have := World.block_lt_of_cell? w _ (h2 0 _ hz)
  exact this

theorem Src.grow {w w' : World} {a : Option Addr} {zs : List Int} (h : Src w a zs) (hb : Below w.heap.size w w') : Src w' a zs := by
  intro h0
  obtain ⟨ad, h1, h2⟩ := h h0
  subst h1
  have hlt := h.lt h0
  exact (h.moved (w' := w') fun ad' e => by cases e; exact hb.block _ hlt) h0

theorem Src.alloc {w : World} {a : Option Addr} {zs : List Int} (h : Src w a zs) (o : Obj) : Src (w.alloc o) a zs := h.grow ((Below.refl _ w).alloc (Nat.le_refl _) o)

/-- nil; or a row of 'cap' cells, the numbers 'zs', of which the first 'len' are its elements -/
def IsRow (k : IntKind) (w : World) (a : Option Addr) (len cap : Nat) (zs : List Int) : Prop :=
  (a = none ∧ len = 0 ∧ cap = 0 ∧ zs = []) ∨
  ∃ x, a = some x ∧ len ≤ cap ∧ cap ≤ maxLen ∧ zs.length = cap ∧ (∀ i, i < zs.length → w.cell? (x.add i) = some (.int k (zs.getD i 0))) ∧ ∀ n ∈ zs, (Lit.int k n).wf = true

theorem row_src {w : World} {a : Option Addr} {len cap : Nat} {zs : List Int} (h : IsRow .u8 w a len cap zs) :
    Src w a (zs.take len) ∧ (zs.take len).length = len ∧ len ≤ cap ∧ cap ≤ 9223372036854775807 ∧ AllB (zs.take len) ∧ (a = none → len = 0 ∧ cap = 0) := by
  rcases h with ⟨rfl, rfl, rfl, rfl⟩ | ⟨x, rfl, h1, h2, h3, h4, h5⟩
  · exact ⟨fun h => by simp at h, by simp, by omega, by omega, fun z hz => by simp at hz, fun _ => ⟨rfl, rfl⟩⟩
  · refine ⟨fun _ => ⟨x, rfl, fun j v hv => ?_⟩, by simp; omega, h1, by unfold maxLen at h2; omega, fun z hz => ?_, fun h => by cases h⟩
    · simp only [cellsOf, List.getElem?_map, Option.map_eq_some_iff] at hv
      obtain ⟨z, hz, rfl⟩ := hv
      rw [List.getElem?_take] at hz
      split at hz
      · have hl : j < zs.length := (List.getElem?_eq_some_iff.1 hz).1
        rw [h4 j hl]
        simp [hz]
      · cases hz
    · have := h5 z (List.mem_of_mem_take hz)
      have e1 : IntKind.u8.min = 0 := rfl
      have e2 : IntKind.u8.max = 255 := rfl
      simp [Lit.wf] at this
      omega

theorem inf5 : (Tryz.prog.info? 5).map (·.size) = some 1 := by kernel_rfl

theorem add_pos (ad : Addr) (c : Nat) (h : 0 < c) : ad.add c = ⟨ad.block, ad.off + c, none⟩ := by
  unfold Addr.add; rw [if_neg (by omega)]

theorem add_add (ad : Addr) (c j : Nat) : (ad.add c).add j = ad.add (c + j) := by
  unfold Addr.add
  by_cases h1 : c = 0
  · subst h1; simp
  · by_cases h2 : j = 0
    · subst h2; simp [h1]
    · simp [h1, h2, Nat.add_assoc]

/-- the cut [c:d] of a slice, where c is less than its room -/
theorem run_cut (w : World) (ad : Addr) (n cap c d : Nat) (h0 : 0 < c) (h1 : c ≤ d) (h2 : d ≤ cap) (h3 : c < cap) : (Instr.slice 22 (.slice (some ad) n cap) (some (.int .i64 (c : Int))) (some (.int .i64 (d : Int))) none).run Tryz.prog w = .ok (.slice (some ⟨ad.block, ad.off + c, none⟩) (d - c) (cap - c)) w := by
  have hi := inf5
  cases hq : Tryz.prog.info? 5 with
  | none => simp [hq] at hi
  | some i =>
    have hs : i.size = 1 := by simpa [hq] using hi
    have hb : (Instr.sliceBound (.int .i64 (c : Int)) d .sliceB).run Tryz.prog w = .ok c w := by
      have := run_sliceBound (P := Tryz.prog) w .i64 (c : Int) d .sliceB (by omega) (by omega)
      simpa using this
    have hb2 : (Instr.sliceBound (.int .i64 (d : Int)) cap .sliceAcap).run Tryz.prog w = .ok d w := by
      have := run_sliceBound (P := Tryz.prog) w .i64 (d : Int) cap .sliceAcap (by omega) (by omega)
      simpa using this
    simp [Instr.slice, run_underlying Tryz.underlying22, Instr.sliceBounds, sizeOf, typeInfo, hq, hs, hb, hb2, Addr.add]
    rw [if_neg (by omega), if_neg (by omega)]

theorem src_cut {w : World} {ad : Addr} {zs : List Int} (h : Src w (some ad) zs) (c d : Nat) (hc : 0 < c) : Src w (some ⟨ad.block, ad.off + c, none⟩) ((zs.drop c).take d) := by
  intro h0
  refine ⟨_, rfl, fun j v hv => ?_⟩
  rw [← add_pos ad c hc, add_add]
  have hj := (List.getElem?_eq_some_iff.1 hv).1
  rw [cellsOf_length] at hj
  simp only [List.length_take, List.length_drop] at hj
  rw [h.cell (c + j) (by omega), ← hv]
  simp only [cellsOf, List.getElem?_map, List.getElem?_take, List.getElem?_drop]
  rw [if_pos (by omega), List.getElem?_eq_getElem (by omega : c + j < zs.length)]
  simp

theorem bytes_cut {w : World} {ad : Addr} {zs : List Int} (h : Src w (some ad) zs) (hb : AllB zs) (hl : zs.length = 512) : Bytes w (some ⟨ad.block, ad.off + 148, none⟩) (fieldOf zs) := by
  have hs : Src w (some ⟨ad.block, ad.off + 148, none⟩) (fieldOf zs) := src_cut h 148 8 (by omega)
  have hlen : (fieldOf zs).length = 8 := by simp [fieldOf, hl]
  refine ⟨by omega, .inr ⟨_, _, rfl, fun i hi => ?_⟩, fun i => ?_⟩
  · have := hs.cell i hi
    by_cases h0 : i = 0
    · subst h0; simpa [Addr.add] using this
    · simpa [Addr.add, h0] using this
  · by_cases hi : i < (fieldOf zs).length
    · have : (fieldOf zs)[i]?.getD 0 = (fieldOf zs)[i] := by simp [hi]
      rw [this]
      exact hb _ (List.mem_of_mem_drop (List.mem_of_mem_take (List.getElem_mem hi)))
    · simp [hi]

end Go.Proofs.YtnmmaedngdibeaaGreatDoor.H
