/-
  'append(append([]int{}, x...), y)' of numbers that are there: a row of its own.
-/
import Derived.Test.YtpjfhfbjdcgbjabReadBad
import Derived.ProofKit
import Derived.OpenShut
namespace Go.Proofs.Ytpjfhfbjdcgbjab
open Go.ChangeShapes Go.WideShapes Go.ChangeAt Go.RowKit
set_option linter.unusedVariables false
set_option linter.unusedSimpArgs false

/-- where a slice's numbers lie, whatever its address -/
def SrcI (w : World) (a : Option Addr) (ks : List Int) : Prop := 0 < ks.length → ∃ ad, a = some ad ∧ ∀ j v, (numCells ks)[j]? = some v → w.cell? (ad.add j) = some v

theorem SrcI.grow {w w' : World} {a : Option Addr} {ks : List Int} (h : SrcI w a ks) (hb : Below w.heap.size w w') : SrcI w' a ks := by
  intro h0
  obtain ⟨ad, h1, h2⟩ := h h0
  refine ⟨ad, h1, fun j v hv => ?_⟩
  exact cell_below hb (h2 j v hv)

theorem rowI_src {w : World} {a : Option Addr} {len cap : Nat} {zs : List Int} (h : IsRow .i64 w a len cap zs) :
    SrcI w a (zs.take len) ∧ (zs.take len).length = len ∧ len ≤ cap ∧ cap ≤ 9223372036854775807 ∧ (∀ z ∈ zs.take len, -9223372036854775808 ≤ z ∧ z ≤ 9223372036854775807) ∧ (a = none → len = 0 ∧ cap = 0) := by
  rcases h with ⟨rfl, rfl, rfl, rfl⟩ | ⟨x, rfl, h1, h2, h3, h4, h5⟩
  · exact ⟨fun h => by simp at h, by simp, by omega, by omega, fun z hz => by simp at hz, fun _ => ⟨rfl, rfl⟩⟩
  · refine ⟨fun _ => ⟨x, rfl, fun j v hv => ?_⟩, by simp; omega, h1, by unfold maxLen at h2; omega, fun z hz => bounds_i64 (h5 z (List.mem_of_mem_take hz)), fun h => by cases h⟩
    simp only [numCells, List.getElem?_map, Option.map_eq_some_iff] at hv
    obtain ⟨z, hz, rfl⟩ := hv
    rw [List.getElem?_take] at hz
    split at hz
    · have hl : j < zs.length := (List.getElem?_eq_some_iff.1 hz).1
      rw [h4 j hl]
      simp [hz]
    · cases hz

theorem oneCell_nums (ks : List Int) : ∀ v ∈ numCells ks, v.oneCell' = true := by
  intro v hv
  simp [numCells] at hv
  obtain ⟨z, _, rfl⟩ := hv
  rfl

theorem wpList_ints {W : World} {ops : Array Oper} {rest : List Oper} {o : Oper} {a : Act} {Q : Exit → Act → World → Prop} (hgd : o.guard = none) (s x : Operand)
    (ho : o.op = .call { callee := .builtin .append, args := #[s, x], argTypes := #[33, 33] })
    (hs : a.eval s = .slice (some ⟨W.heap.size, 0, none⟩) 0 0) (ax : Option Addr) (n c : Nat) (ks : List Int) (hn : ks.length = n) (hx : a.eval x = .slice ax n c) (hsrc : SrcI W ax ks) (hnil : ax = none → n = 0 ∧ c = 0) (hl : n ≤ 2000)
    (h : ∀ g c' w', Own w' W.heap.size (.slice (some ⟨g, 0, none⟩) n c') ks → Below W.heap.size W w' → wpList Try.prog ops Q rest (a.put o.dst (.slice (some ⟨g, 0, none⟩) n c')) w') : wpList Try.prog ops Q (o :: rest) a (W.alloc (.cells #[] 3)) := by
  subst hn
  obtain ⟨i0, hi0, hi1, hi2, hi3⟩ := i3
  have hown : (W.alloc (.cells #[] 3)).ownsRow W.heap.size 3 1 (.slice (some ⟨W.heap.size, 0, none⟩) 0 0) 0 [] := ⟨rfl, .inr ⟨_, 0, #[], rfl, Nat.le_refl _, heap_alloc_new W _, Nat.le_refl _, by unfold maxLen; omega, rfl, rfl⟩⟩
  have bA : Below W.heap.size W (W.alloc (.cells #[] 3)) := below_box W _
  cases ax with
  | none =>
    obtain ⟨h0, rfl⟩ := hnil rfl
    obtain rfl : ks = [] := List.eq_nil_of_length_eq_zero h0
    refine wpList_append_own_none hgd s x 33 ho W.heap.size 3 i0 1 Try.underlying33 hi0 _ _ _ hs hown hx ?_
    exact h W.heap.size 0 _ hown bA
  | some ad =>
    refine wpList_append_own _ hgd s x 33 ho W.heap.size 3 i0 (.int .i64 0) 1 8 Try.underlying33 hi0 hi3 hi1 hi2 rfl (by decide) _ _ _ hs hown ad ks.length c (numCells ks) hx ?_ ?_ ?_ ?_ ?_ ?_ ?_
    · rw [numCells_length, Nat.mul_one]
    · intro j v hv
      have hj := (List.getElem?_eq_some_iff.1 hv).1
      rw [numCells_length] at hj
      obtain ⟨ad', e1, h2⟩ := (hsrc.grow bA) (by omega)
      cases e1
      exact h2 j v hv
    · exact oneCell_nums ks
    · unfold maxLen; omega
    · omega
    · simp
    · intro v' w3 hown' hgrow hh
      have b3 : Below W.heap.size W w3 := bA.grown hgrow (by simp) (fun k hk => by simp [Value.ownBlock] at hk; omega)
      obtain ⟨g, c', rfl⟩ : ∃ g c', v' = .slice (some ⟨g, 0, none⟩) ks.length c' := by
        rcases hown'.2 with ⟨e1, e2⟩ | ⟨g, c', cur, e1, _⟩
        · have := (hh.1 e1).1; cases this
        · rw [Nat.zero_add] at e1; exact ⟨g, c', e1⟩
      refine h g c' w3 ?_ b3
      unfold Own
      simpa using hown'

theorem wpList_push {W : World} {ops : Array Oper} {rest : List Oper} {o : Oper} {a : Act} {Q : Exit → Act → World → Prop} (hgd : o.guard = none) (s x : Operand)
    (ho : o.op = .call { callee := .builtin .append, args := #[s, x], argTypes := #[33, 33] })
    (B g n c : Nat) (ks : List Int) (k : Int) (hs : a.eval s = .slice (some ⟨g, 0, none⟩) n c) (hown : Own W B (.slice (some ⟨g, 0, none⟩) n c) ks) (hB : B ≤ W.heap.size) (hn : n = ks.length) (hx : a.eval x = .slice (some ⟨W.heap.size, 0, none⟩) 1 1) (hl : n ≤ 2000)
    (h : ∀ g' c' w', Own w' B (.slice (some ⟨g', 0, none⟩) (n + 1) c') (ks ++ [k]) → Below B W w' → wpList Try.prog ops Q rest (a.put o.dst (.slice (some ⟨g', 0, none⟩) (n + 1) c')) w') : wpList Try.prog ops Q (o :: rest) a (W.alloc (.cells #[.int .i64 k] 3)) := by
  subst hn
  obtain ⟨i0, hi0, hi1, hi2, hi3⟩ := i3
  have bA : Below W.heap.size W (W.alloc (.cells #[.int .i64 k] 3)) := below_box W _
  have hown2 : (W.alloc (.cells #[.int .i64 k] 3)).ownsRow B 3 1 (.slice (some ⟨g, 0, none⟩) ks.length c) ks.length (numCells ks) := hown.moved fun g _ hl _ => bA.block g hl
  refine wpList_append_own _ hgd s x 33 ho B 3 i0 (.int .i64 0) 1 8 Try.underlying33 hi0 hi3 hi1 hi2 rfl (by decide) _ _ _ hs hown2 ⟨W.heap.size, 0, none⟩ 1 1 [.int .i64 k] hx rfl ?_ ?_ ?_ ?_ ?_ ?_
  · intro q u hu
    cases q with
    | zero => simp at hu; subst hu; simp [Addr.add, World.cell?_alloc_new]
    | succ q => simp at hu
  · intro u hu; simp at hu; subst hu; rfl
  · unfold maxLen; omega
  · omega
  · simp; omega
  · intro v' w3 hown' hgrow hh
    have hgB : B ≤ g := by
      rcases hown.2 with ⟨e1, _⟩ | ⟨g', cp, cur, e1, e2, _⟩
      · cases e1
      · simp at e1; omega
    have b3 : Below B W w3 := (bA.mono hB).grown hgrow (by simp; omega) (fun k hk => by simp [Value.ownBlock] at hk; omega)
    obtain ⟨g', c', rfl⟩ : ∃ g' c', v' = .slice (some ⟨g', 0, none⟩) (ks.length + 1) c' := by
      rcases hown'.2 with ⟨e1, e2⟩ | ⟨g', c', cur, e1, _⟩
      · omega
      · exact ⟨g', c', e1⟩
    refine h g' c' w3 ?_ b3
    unfold Own
    rw [List.length_append]
    simpa [numCells] using hown'

end Go.Proofs.Ytpjfhfbjdcgbjab
