/-
  Contracts: slices.Clone of numbers, extent.dropAll.
-/
import Derived.Test.YtpjfhfbjdcgbjabCan
import Derived.OwnWalk
import Derived.Laws.AppendOwnNone
import Derived.Lib.SliceRun
namespace Go.Proofs.Ytpjfhfbjdcgbjab
open Go.RowKit
set_option linter.unusedVariables false
set_option linter.unusedSimpArgs false

def numCells (ids : List Int) : List Value := ids.map (Value.int .i64)
theorem numCells_length (ids : List Int) : (numCells ids).length = ids.length := by simp [numCells]

theorem i3 : ∃ i, Try.prog.info? 3 = some i ∧ i.size = 1 ∧ i.bytes = 8 ∧ i.zero = some (.int .i64 0) := by
  have a : (Try.prog.info? 3).map (fun i => (i.size, i.bytes)) = some (1, 8) := by kernel_rfl
  have b : (Try.prog.info? 3).bind (fun i => i.zero) = some (.int .i64 0) := by kernel_rfl
  cases h : Try.prog.info? 3 with
  | none => rw [h] at a; simp at a
  | some i => rw [h] at a b; simp at a b; exact ⟨i, rfl, a.1, a.2, b⟩

/-- a list of numbers of one's own: nil, or a row from its head on -/
def Own (w : World) (B : Nat) (v : Value) (ids : List Int) : Prop := w.ownsRow B 3 1 v ids.length (numCells ids)

theorem Own.form {w : World} {B : Nat} {v : Value} {ids : List Int} (h : Own w B v ids) : ∃ a cap, v = .slice a ids.length cap ∧ Ids w a ids ∧ (∀ b off, a = some ⟨b, off, none⟩ → B ≤ b ∧ b < w.heap.size ∧ off = 0) ∧ ids.length ≤ cap ∧ cap ≤ 9223372036854775807 := by
  rcases h.2 with ⟨rfl, h0⟩ | ⟨g, cap, cur, rfl, h1, h2, h3, h4, h5, h6⟩
  · exact ⟨none, 0, by rw [h0], fun h => by omega, fun b off e => (by cases e), by omega, by omega⟩
  · refine ⟨some ⟨g, 0, none⟩, cap, rfl, fun h0 => ⟨g, 0, rfl, fun j z hz => ?_⟩, fun b off e => by cases e; exact ⟨h1, lt_of_heap h2, rfl⟩, h3, by unfold maxLen at h4; omega⟩
    have hj := (List.getElem?_eq_some_iff.1 hz).1
    have e : (cur.toList.take (ids.length * 1))[j]? = (numCells ids)[j]? := by rw [h6]
    rw [Nat.mul_one, List.getElem?_take, if_pos hj] at e
    simp only [World.cell?, h2, Nat.zero_add]
    simp only [numCells, List.getElem?_map, hz] at e
    simpa using e

set_option maxHeartbeats 1000000 in
/-- slices.Clone: the same numbers in a row of one's own -/
theorem clone_w (a : Option Addr) (cap : Nat) (ids : List Int) (w : World) (hI : Ids w a ids) (hl : ids.length ≤ 1048576) (hn : a = none → cap = 0) :
    Calls Try.prog 17 #[.slice a ids.length cap] w fun e w' => ∃ v, e = .returned v ∧ Own w' w.heap.size v ids ∧ Below w.heap.size w w' := by
  obtain ⟨i0, hi0, hi1, hi2, hi3⟩ := i3
  cases a with
  | none =>
    obtain rfl := hn rfl
    have h0 : ids = [] := by
      rcases Nat.eq_zero_or_pos ids.length with h0 | h0
      · exact List.eq_nil_of_length_eq_zero h0
      · obtain ⟨b, off, e, _⟩ := hI h0; cases e
    subst h0
    have hq := Lib.run_eql_slice_nil (P := Try.prog) w 33 3 none 0 0 0 0 Try.underlying33
    go_enter Try.func17, Try.ntmps17
    go_wp2
    go_ret
    exact ⟨_, rfl, ⟨rfl, .inl ⟨rfl, rfl⟩⟩, Below.refl _ _⟩
  | some ad =>
    have hown : (w.alloc (.cells #[] 3)).ownsRow w.heap.size 3 1 (.slice (some ⟨w.heap.size, 0, none⟩) 0 0) 0 [] := ⟨rfl, .inr ⟨_, 0, #[], rfl, Nat.le_refl _, heap_alloc_new w _, Nat.le_refl _, by unfold maxLen; omega, rfl, rfl⟩⟩
    have bA := below_box w (.cells #[] 3)
    have hI' := hI.alloc (.cells #[] 3)
    have hq := Lib.run_eql_slice_nil (P := Try.prog) w 33 3 (some ad) ids.length cap 0 0 Try.underlying33
    go_enter Try.func17, Try.ntmps17
    go_wp2_with (at_builtin; refine wpList_append_own _ rfl _ _ 33 rfl w.heap.size 3 i0 (.int .i64 0) 1 8 Try.underlying33 hi0 hi3 hi1 hi2 rfl (by decide) _ _ _ rfl hown ad ids.length cap (numCells ids) rfl ?d0 ?d1 ?d2 ?d3 ?d4 ?d5 ?_)
    case d0 => rw [numCells_length, Nat.mul_one]
    case d1 =>
      intro j v hv
      simp only [numCells, List.getElem?_map, Option.map_eq_some_iff] at hv
      obtain ⟨z, hz, rfl⟩ := hv
      have hj := (List.getElem?_eq_some_iff.1 hz).1
      obtain ⟨b, off, e, h2⟩ := hI' (by omega)
      cases e
      have e1 : (⟨b, off, none⟩ : Addr).add j = ⟨b, off + j, none⟩ := by unfold Addr.add; split <;> simp_all
      rw [e1]
      exact h2 j z hz
    case d2 =>
      intro v hv
      simp [numCells] at hv
      obtain ⟨z, _, rfl⟩ := hv
      rfl
    case d3 => unfold maxLen; omega
    case d4 => omega
    case d5 => simp
    · intro v' w2 hown' hgrow hh
      go_wp2
      go_ret
      refine ⟨_, rfl, ?_, bA.grown hgrow (by simp) (fun k hk => by simp [Value.ownBlock] at hk; omega)⟩
      exact hown'

end Go.Proofs.Ytpjfhfbjdcgbjab
