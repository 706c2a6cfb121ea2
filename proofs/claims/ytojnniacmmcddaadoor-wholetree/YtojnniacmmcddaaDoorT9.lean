/-
  Contract: slices.Reverse of rows, laid at this program.
-/
import Derived.Test.YtojnniacmmcddaaDoorT8
import Derived.Shelf.SlicesQ.Reverse
namespace Go.Proofs
open Go.Shelf
def Tryd.revR_ren : Go.Shelf.Ren := ⟨fun | 35 => 52 | n => n, fun | 22 => 24 | 23 => 40 | n => n, fun | n => n⟩
theorem Tryd.revR : Go.Proofs.SlLaysE0.n35 Tryd.prog Tryd.revR_ren := {
  mixed := by kernel_rfl
  f35 := ⟨"slices.Reverse[[]pannier/tree.Row,pannier/tree.Row]", of_decide_eq_true (by kernel_rfl), Tryd.func52.trans (congrArg some (by kernel_rfl))⟩
  t0 := Tryd.underlying0
  a0 := Tryd.isAgg0
  z0 := Tryd.sizeOf0
  v0 := Tryd.zeroValue0
  t3 := Tryd.underlying3
  a3 := Tryd.isAgg3
  z3 := Tryd.sizeOf3
  v3 := Tryd.zeroValue3
  t4 := Tryd.underlying4
  a4 := Tryd.isAgg4
  z4 := Tryd.sizeOf4
  v4 := Tryd.zeroValue4
  t22 := Tryd.underlying24
  a22 := Tryd.isAgg24
  z22 := Tryd.sizeOf24
  v22 := Tryd.zeroValue24 }
end Go.Proofs
namespace Go.Proofs.YtojnniacmmcddaaDoor
open Go.RowKit
open Go.Lib hiding intOf
set_option linter.unusedVariables false
set_option linter.unusedSimpArgs false

instance : Inhabited Rw := ⟨zr⟩

/-- rows in a block from its beginning on, that may be written -/
def Hr (w : World) (g : Nat) (L : List Rw) : Prop := ∀ (j : Nat) (v : Value), (flat L)[j]? = some v → w.cell? ⟨g, j, none⟩ = some v ∧ w.frozen? ⟨g, j, none⟩ = false

theorem flat_at (L : List Rw) (t : Nat) (h : t < L.length * 13) : (flat L)[t]? = some ((L.toArray[t / 13]!).cs[t % 13]!) := by
  have h1 : t / 13 < L.length := by omega
  have h2 : t % 13 < 13 := Nat.mod_lt _ (by omega)
  have e1 : L.toArray[t / 13]! = L[t / 13] := by rw [getElem!_pos L.toArray (t / 13) (by simpa using h1)]; simp
  have e2 : t = (t / 13) * 13 + t % 13 := by omega
  rw [e1]
  conv => lhs; rw [e2]
  have h3 : t % 13 < (L[t / 13]).cs.length := by rw [Rw.cs_length]; exact h2
  refine flat_get L (t / 13) (t % 13) L[t / 13] _ (List.getElem?_eq_getElem h1) ?_
  rw [List.getElem?_eq_getElem h3]
  exact congrArg some (getElem!_pos (L[t / 13]).cs (t % 13) h3).symm

theorem Hr.holds {w : World} {g : Nat} {L : List Rw} (h : Hr w g L) : Go.Sort.HoldsK Rw.cs 13 w g 0 L.toArray := by
  intro j hj
  rw [Go.Sort.size_flatK] at hj
  rw [Nat.zero_add, Go.Sort.get_flatK _ _ _ _ hj]
  exact h j _ (flat_at L j (by simpa using hj))

theorem Hr.of {w : World} {g : Nat} {L : List Rw} (h : Go.Sort.HoldsK Rw.cs 13 w g 0 L.toArray) : Hr w g L := by
  intro j v hv
  have hj : j < L.length * 13 := by have := (List.getElem?_eq_some_iff.1 hv).1; rwa [flat_length] at this
  have := h j (by rw [Go.Sort.size_flatK]; simpa using hj)
  rw [Nat.zero_add, Go.Sort.get_flatK _ _ _ _ (by simpa using hj)] at this
  rw [flat_at L j hj] at hv
  cases hv
  exact this

theorem reverse_w (g cap : Nat) (L : List Rw) (w : World) (h : Hr w g L) (hl : L.length ≤ 1000000) :
    Calls Tryd.prog 52 #[.slice (some ⟨g, 0, none⟩) L.length cap] w fun e w' => e = .returned (.tuple #[]) ∧ Hr w' g L.reverse ∧ w.grownBy w' (some g) := by
  have := AnyQ.slices_Reverse Tryd.revR 13 Tryd.isAgg40 Tryd.sizeOf40 Rw.cs (fun _ => rfl) (fun r v hv => cs_one r v hv) g 0 cap L.toArray w h.holds (by simp; omega)
  have this2 : Calls Tryd.prog 52 #[.slice (some ⟨g, 0, none⟩) L.toArray.size cap] w fun e w' => e = .returned (.tuple #[]) ∧ ∃ n, w' = Go.Sort.putRowK Rw.cs 13 (Go.Sort.ahead w n) g 0 L.toArray.reverse := this
  rw [List.size_toArray, List.reverse_toArray] at this2
  refine this2.mono ?_
  rintro e w' ⟨rfl, n, rfl⟩
  refine ⟨rfl, Hr.of ?_, ?_⟩
  · exact Go.Sort.holdsK_putRowK Rw.cs 13 (Go.Sort.ahead w n) g 0 L.toArray L.reverse.toArray (Go.Sort.holdsK_ahead Rw.cs 13 w n g 0 L.toArray h.holds) (by simp)
  · refine ⟨rfl, rfl, rfl, ?_, fun k hk hne => ?_⟩
    · simp [Go.Sort.putRowK, Go.Sort.ahead]
    · show (Go.Sort.mapBlock _ g _).heap[k]? = _
      unfold Go.Sort.mapBlock
      have : g ≠ k := fun e => hne (by rw [e])
      simp [Go.Sort.ahead, Array.getElem?_modify, this]

end Go.Proofs.YtojnniacmmcddaaDoor
