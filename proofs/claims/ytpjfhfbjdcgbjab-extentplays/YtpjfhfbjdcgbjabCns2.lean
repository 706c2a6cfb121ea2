/-
  A row of contents of one's own: one put in the place of another, one taken out.
-/
import Derived.Test.YtpjfhfbjdcgbjabCns
namespace Go.Proofs.Ytpjfhfbjdcgbjab
open Go.ChangeShapes Go.WideShapes Go.ChangeAt Go.RowKit
set_option linter.unusedVariables false
set_option linter.unusedSimpArgs false

theorem rowC_set : ∀ (xs : List Cn) (i : Nat) (y : Cn), i < xs.length → ((rowC xs).set (i * 2) y.val).set (i * 2 + 1) (.int .i64 (y.L.length : Int)) = rowC (xs.set i y)
  | [], i, y, h => by simp at h
  | x :: r, 0, y, h => by simp [rowC, Cn.cells]
  | x :: r, i + 1, y, h => by
    have := rowC_set r i y (by simpa using h)
    have e1 : (i + 1) * 2 = i * 2 + 2 := by omega
    simp only [rowC, Cn.cells, List.set_cons_succ, e1]
    simp only [List.cons_append, List.nil_append, List.set_cons_succ]
    rw [this]

theorem Cs.set {w : World} {B g n c : Nat} {xs : List Cn} (h : Cs w B (.slice (some ⟨g, 0, none⟩) n c) xs) {i : Nat} {x y : Cn} (hi : xs[i]? = some x) (hy : Own w B y.val y.ids) :
    Cs ((w.setCell ⟨g, i * 2, none⟩ y.val).setCell ⟨g, i * 2 + 1, none⟩ (.int .i64 (y.L.length : Int))) B (.slice (some ⟨g, 0, none⟩) n c) (xs.set i y) ∧
    (∀ k, k ≠ g → ((w.setCell ⟨g, i * 2, none⟩ y.val).setCell ⟨g, i * 2 + 1, none⟩ (.int .i64 (y.L.length : Int))).heap[k]? = w.heap[k]?) ∧
    (∀ B' u ids, Own w B' u ids → Own ((w.setCell ⟨g, i * 2, none⟩ y.val).setCell ⟨g, i * 2 + 1, none⟩ (.int .i64 (y.L.length : Int))) B' u ids) := by
  have hlt := (List.getElem?_eq_some_iff.1 hi).1
  rcases h.row.2 with ⟨e, h0⟩ | ⟨g', cap, cur, e, hB, hg, h1, h2, h3, h4⟩
  · cases e
  · simp at e
    obtain ⟨rfl, rfl, rfl⟩ := e
    have ot : ∀ k, k ≠ g → ((w.setCell ⟨g, i * 2, none⟩ y.val).setCell ⟨g, i * 2 + 1, none⟩ (.int .i64 (y.L.length : Int))).heap[k]? = w.heap[k]? := fun k hk => by rw [Below.heap_setCell _ _ _ _ hk, Below.heap_setCell _ _ _ _ hk]
    have mv : ∀ B' u ids, Own w B' u ids → Own ((w.setCell ⟨g, i * 2, none⟩ y.val).setCell ⟨g, i * 2 + 1, none⟩ (.int .i64 (y.L.length : Int))) B' u ids := fun B' u ids ho => ho.moved fun k _ _ ht => ot k (by
      rintro rfl
      have := ht _ _ _ hg
      cases this)
    have hh : ((w.setCell ⟨g, i * 2, none⟩ y.val).setCell ⟨g, i * 2 + 1, none⟩ (.int .i64 (y.L.length : Int))).heap[g]? = some (.cells ((cur.setIfInBounds (i * 2) y.val).setIfInBounds (i * 2 + 1) (.int .i64 (y.L.length : Int))) 35 (0, 0)) := by
      rw [setCell_eq_setRow w g (i * 2) _ _ _ _ hg, setCell_eq_setRow _ g (i * 2 + 1) _ _ _ _ (setRow_heap _ _ _ _ _ _ hg), setRow_heap _ _ _ _ _ _ (setRow_heap _ _ _ _ _ _ hg)]
    refine ⟨⟨⟨by rw [rowC_length], .inr ⟨g, c, _, by rw [List.length_set], hB, hh, by rw [List.length_set]; exact h1, h2, by simpa using h3, ?_⟩⟩, ?_⟩, ot, mv⟩
    · rw [Array.toList_setIfInBounds, Array.toList_setIfInBounds, List.take_set, List.take_set, List.length_set, h4, rowC_set xs i y hlt]
    · intro z hz
      rcases List.mem_or_eq_of_mem_set hz with hz | rfl
      · exact mv _ _ _ (h.own z hz)
      · exact mv _ _ _ hy

def lowAt2 (a : Option Addr) (cap c : Nat) : Option Addr := if cap = c then a else a.map (·.add (c * 2))

theorem run_low2 (w : World) (a : Option Addr) (n cap c : Nat) (h : c ≤ n) : (Instr.sliceAt 28 (.slice a n cap) (some (.int .i64 (c : Int))) none none).run Try.prog w = .ok (.slice (lowAt2 a cap c) (n - c) (cap - c)) w := by
  rw [run_sliceAt_slice w 28 _ _ _ _ (by kernel_rfl)]
  obtain ⟨i, hi, hs, _, _⟩ := i35
  have hu : Try.prog.underlying 28 = some (.slice 35) := by kernel_rfl
  have hb : (Instr.sliceBound (.int .i64 (c : Int)) n .sliceB).run Try.prog w = .ok c w := by
    have := run_sliceBound (P := Try.prog) w .i64 (c : Int) n .sliceB (by omega) (by omega)
    simpa using this
  simp [Instr.slice, run_underlying hu, Instr.sliceBounds, sizeOf, typeInfo, hi, hs, hb, lowAt2]

theorem run_high2 (w : World) (a : Option Addr) (n cap c : Nat) (h : c ≤ cap) : (Instr.sliceAt 28 (.slice a n cap) none (some (.int .i64 (c : Int))) none).run Try.prog w = .ok (.slice a c cap) w := by
  rw [run_sliceAt_slice w 28 _ _ _ _ (by kernel_rfl)]
  obtain ⟨i, hi, hs, _, _⟩ := i35
  have hu : Try.prog.underlying 28 = some (.slice 35) := by kernel_rfl
  have hb : (Instr.sliceBound (.int .i64 (c : Int)) cap .sliceAcap).run Try.prog w = .ok c w := by
    have := run_sliceBound (P := Try.prog) w .i64 (c : Int) cap .sliceAcap (by omega) (by omega)
    simpa using this
  cases a <;> simp [Instr.slice, run_underlying hu, Instr.sliceBounds, sizeOf, typeInfo, hi, hb, Addr.add]

theorem rowC_drop : ∀ (xs : List Cn) (i : Nat), rowC (xs.drop i) = (rowC xs).drop (i * 2)
  | [], i => by simp [rowC]
  | x :: r, 0 => by simp
  | x :: r, i + 1 => by
    rw [List.drop_succ_cons, rowC_drop r i, show (i + 1) * 2 = i * 2 + 2 by omega]
    simp [rowC, Cn.cells]

theorem rowC_take : ∀ (xs : List Cn) (i : Nat), rowC (xs.take i) = (rowC xs).take (i * 2)
  | [], i => by simp [rowC]
  | x :: r, 0 => by simp [rowC]
  | x :: r, i + 1 => by
    rw [List.take_succ_cons, show (i + 1) * 2 = i * 2 + 2 by omega]
    simp [rowC, Cn.cells, rowC_take r i]

theorem one_rowC : ∀ (xs : List Cn), ∀ u ∈ rowC xs, u.oneCell' = true
  | [], u, h => by simp [rowC] at h
  | x :: r, u, h => by
    simp [rowC, Cn.cells] at h
    rcases h with rfl | rfl | h
    · rfl
    · rfl
    · exact one_rowC r u h

/-- 'append(x[:i], x[i+1:]...)' -/
theorem Cs.erase {w : World} {B g n c : Nat} {xs : List Cn} (h : Cs w B (.slice (some ⟨g, 0, none⟩) n c) xs) {i : Nat} (hi : i < n) (ty : TypeId) :
    ∃ W, (Builtin.append_ #[28, 28] ty #[.slice (some ⟨g, 0, none⟩) i c, .slice (lowAt2 (some ⟨g, 0, none⟩) c (i + 1)) (n - (i + 1)) (c - (i + 1))]).run Try.prog w = .ok (.slice (some ⟨g, 0, none⟩) (n - 1) c) W ∧
      Cs W B (.slice (some ⟨g, 0, none⟩) (n - 1) c) (xs.eraseIdx i) ∧ (∀ k, k ≠ g → W.heap[k]? = w.heap[k]?) ∧ (∀ B' u ids, Own w B' u ids → Own W B' u ids) ∧ Below B w W := by
  rcases h.row.2 with ⟨e, h0⟩ | ⟨g', cap, cur, e, hB, hg, h1, h2, h3, h4⟩
  · cases e
  · simp at e
    obtain ⟨rfl, rfl, rfl⟩ := e
    obtain ⟨i0, hi0, hs0, _, _⟩ := i35
    have hl : (rowC (xs.drop (i + 1))).length = (xs.length - (i + 1)) * i0.size := by rw [rowC_length, List.length_drop, hs0]
    obtain ⟨ad, had, hcell⟩ : ∃ ad, lowAt2 (some ⟨g, 0, none⟩) c (i + 1) = some ad ∧ ∀ j u, (rowC (xs.drop (i + 1)))[j]? = some u → w.cell? (ad.add j) = some u := by
      unfold lowAt2
      by_cases cc : c = i + 1
      · refine ⟨_, if_pos cc, fun j u hu => ?_⟩
        have hj := (List.getElem?_eq_some_iff.1 hu).1
        rw [rowC_length, List.length_drop] at hj
        omega
      · refine ⟨⟨g, (i + 1) * 2, none⟩, by rw [if_neg cc]; simp [Addr.add], fun j u hu => ?_⟩
        have e1 : (⟨g, (i + 1) * 2, none⟩ : Addr).add j = ⟨g, (i + 1) * 2 + j, none⟩ := by unfold Addr.add; split <;> simp_all
        rw [e1]
        rw [rowC_drop, List.getElem?_drop, ← h4, List.getElem?_take] at hu
        split at hu
        · simp only [World.cell?, hg]; simpa using hu
        · cases hu
    have hrun := run_append_room (P := Try.prog) w 28 ty 35 i0 (by kernel_rfl) hi0 g i c cur hg ad (xs.length - (i + 1)) (c - (i + 1)) (rowC (xs.drop (i + 1))) hl hcell (one_rowC _) (by omega) (by rw [hl, hs0, h3, ← Nat.add_mul]; exact Nat.mul_le_mul_right 2 (by omega))
    rw [had]
    refine ⟨_, hrun.trans (by rw [show i + (xs.length - (i + 1)) = xs.length - 1 by omega]), ?_, ?_, ?_, ?_⟩
    all_goals rw [hs0]
    · have ot : ∀ k, k ≠ g → (w.setRow g (cur.toList.take (i * 2) ++ rowC (xs.drop (i + 1)) ++ cur.toList.drop (i * 2 + (rowC (xs.drop (i + 1))).length)).toArray).heap[k]? = w.heap[k]? := fun k hk => setRow_other _ _ _ _ hk
      have hel : (xs.eraseIdx i).length = xs.length - 1 := by rw [List.length_eraseIdx, if_pos hi]
      refine ⟨⟨by rw [rowC_length], .inr ⟨g, c, _, by rw [hel], hB, setRow_heap _ _ _ _ _ _ hg, by rw [hel]; omega, h2, ?_, ?_⟩⟩, fun z hz => ?_⟩
      · have hcs : cur.toList.length = c * 2 := by rw [Array.length_toList]; exact h3
        have : (i + (xs.length - (i + 1))) * 2 ≤ c * 2 := Nat.mul_le_mul_right 2 (by omega)
        simp only [List.size_toArray, List.length_append, List.length_take, List.length_drop, hcs, rowC_length]
        omega
      · have ht : cur.toList.take (i * 2) = (rowC xs).take (i * 2) := by
          rw [← h4, List.take_take, Nat.min_eq_left (by omega)]
        rw [ht, ← rowC_take, hel, List.eraseIdx_eq_take_drop_succ, rowC_append]
        rw [List.take_append_of_le_length (by rw [List.length_append, rowC_length, rowC_length, List.length_take, List.length_drop]; omega), List.take_of_length_le (by rw [List.length_append, rowC_length, rowC_length, List.length_take, List.length_drop]; omega)]
      · exact (h.own z (List.mem_of_mem_eraseIdx hz)).moved fun k _ _ htt => ot k (by
          rintro rfl
          have := htt _ _ _ hg
          cases this)
    · intro k hk; exact setRow_other _ _ _ _ hk
    · intro B' u ids ho
      exact ho.moved fun k _ _ htt => setRow_other _ _ _ _ (by
        rintro rfl
        have := htt _ _ _ hg
        cases this)
    · exact below_setRow (Below.refl _ _) hB _

end Go.Proofs.Ytpjfhfbjdcgbjab
