/-
  Plain: the directories in which a path lies, the nearest first; a directory that nobody named; append of one row.
-/
import Derived.Test.YtojnniacmmcddaaDoorT9
import Derived.Test.YtojnniacmmcddaaDoorP0
namespace Go.Proofs.YtojnniacmmcddaaDoor
open Go.RowKit
open Go.Lib hiding intOf
set_option linter.unusedVariables false
set_option linter.unusedSimpArgs false

theorem up_len {l : List UInt8} (h : l ≠ []) : (upL l).length < l.length := by
  unfold upL
  have hp : 0 < l.length := List.length_pos_iff.2 h
  rw [List.length_take]
  rcases Lib.lastIdx_spec (bs l) 47 (bs l).size with ⟨h1, _⟩ | ⟨i, hi, h1, _, _⟩
  · have h1' : Lib.lastIndexByte (bs l) 47 = -1 := h1
    rw [h1']
    show min 0 _ < _
    omega
  · have h1' : Lib.lastIndexByte (bs l) 47 = i := h1
    rw [h1', Int.toNat_natCast]
    rw [bs_size] at hi
    omega

/-- a path and all directories in which it lies, the root apart -/
def chain (u : List UInt8) : List (List UInt8) := if h : u = [] then [] else u :: chain (upL u)
termination_by u.length
decreasing_by exact up_len h

theorem chain_nil : chain [] = [] := by rw [chain]; simp
theorem chain_cons {u : List UInt8} (h : u ≠ []) : chain u = u :: chain (upL u) := by rw [chain]; simp [h]

theorem chain_le (u : List UInt8) : ∀ x ∈ chain u, x.length ≤ u.length ∧ x ≠ [] := by
  generalize hn : u.length = n
  induction n using Nat.strongRecOn generalizing u with
  | _ n ih =>
    intro x hx
    by_cases h : u = []
    · subst h; rw [chain_nil] at hx; cases hx
    · rw [chain_cons h] at hx
      rcases List.mem_cons.1 hx with rfl | hx
      · exact ⟨by omega, h⟩
      · have hl := up_len h
        have := ih (upL u).length (by omega) (upL u) rfl x hx
        exact ⟨by omega, this.2⟩

theorem chain_len (u : List UInt8) : (chain u).length ≤ u.length := by
  generalize hn : u.length = n
  induction n using Nat.strongRecOn generalizing u with
  | _ n ih =>
    by_cases h : u = []
    · subst h; rw [chain_nil]; simp
    · rw [chain_cons h, List.length_cons]
      have hl := up_len h
      have := ih (upL u).length (by omega) (upL u) rfl
      omega

/-- a directory that nobody named -/
def mkR (u : List UInt8) : Rw := ⟨u, 0, 4, 493, 0, true⟩

/-- append of one row, which was built just ahead, to rows of one's own, be they none -/
theorem wpList_row1 {W : World} {ops : Array Oper} {rest : List Oper} {o : Oper} {a : Act} {Q : Exit → Act → World → Prop} (hgd : o.guard = none) (s x : Operand)
    (ho : o.op = .call { callee := .builtin .append, args := #[s, x], argTypes := #[24, 24] })
    (B : Nat) (v : Value) (L : List Rw) (r : Rw) (hs : a.eval s = v) (hown : Ow W B v L) (hB : B ≤ W.heap.size) (hx : a.eval x = .slice (some ⟨W.heap.size, 0, none⟩) 1 1) (hl : L.length ≤ 1000000)
    (h : ∀ g' c' w', Ow w' B (.slice (some ⟨g', 0, none⟩) (L.length + 1) c') (L ++ [r]) → Below B W w' → wpList Tryd.prog ops Q rest (a.put o.dst (.slice (some ⟨g', 0, none⟩) (L.length + 1) c')) w') : wpList Tryd.prog ops Q (o :: rest) a (W.alloc (.cells r.cs.toArray 40)) := by
  obtain ⟨i0, hi0, hi1, hi2, z, hz, hzs⟩ := i40
  have bA : Below W.heap.size W (W.alloc (.cells r.cs.toArray 40)) := below_box W _
  have hown2 : (W.alloc (.cells r.cs.toArray 40)).ownsRow B 40 13 v L.length (flat L) := World.ownsRow.alloc hown _
  refine wpList_append_own _ hgd s x 24 ho B 40 i0 z 13 152 Tryd.underlying24 hi0 hz hi1 hi2 hzs (by decide) _ _ _ hs hown2 ⟨W.heap.size, 0, none⟩ 1 1 r.cs hx rfl ?_ (cs_one r) ?_ ?_ ?_ ?_
  · intro q u hu
    rw [Addr.add_mid, Nat.zero_add, World.cell?_alloc_new]
    simpa using hu
  · unfold maxLen; omega
  · omega
  · rw [size_box]; omega
  · intro v' w3 hown' hgrow hh
    have b3 : Below B W w3 := (bA.mono hB).grown hgrow (by rw [size_box]; omega) (fun k hk => by
      rcases hown.2 with ⟨e1, _⟩ | ⟨g', cp, cur, e1, e2, _⟩
      · subst e1; simp [Value.ownBlock] at hk
      · subst e1; simp [Value.ownBlock] at hk; omega)
    obtain ⟨g', c', rfl⟩ : ∃ g' c', v' = .slice (some ⟨g', 0, none⟩) (L.length + 1) c' := by
      rcases hown'.2 with ⟨e1, e2⟩ | ⟨g', c', cur, e1, _⟩
      · omega
      · exact ⟨g', c', e1⟩
    refine h g' c' w3 ?_ b3
    unfold Ow
    rw [flat_append, flat_cons, flat_nil, List.append_nil, List.length_append]
    exact hown'

/-- rows of one's own may be written -/
theorem Ow.hr {w : World} {B g n c : Nat} {L : List Rw} (h : Ow w B (.slice (some ⟨g, 0, none⟩) n c) L) : Hr w g L := by
  rcases h.2 with ⟨e1, _⟩ | ⟨g', cap, cur, e1, e2, e3, e4, e5, e6, e7⟩
  · cases e1
  · cases e1
    intro j v hv
    refine ⟨?_, frozen_of_row w g j cur 40 e3⟩
    unfold World.cell?
    simp only [e3]
    rw [← e7, List.getElem?_take] at hv
    split at hv
    · simpa using hv
    · cases hv

/-- a number is set in one of them -/
theorem Hr.setId {w : World} {g : Nat} {L : List Rw} (h : Hr w g L) (i : Nat) (r : Rw) (hi : L[i]? = some r) (z : Int) : Hr (w.setCell ⟨g, i * 13 + 1, none⟩ (.int .i64 z)) g (L.set i { r with id := z }) := by
  have hlt : i < L.length := (List.getElem?_eq_some_iff.1 hi).1
  have hold := h (i * 13 + 1) _ (flat_get L i 1 r _ hi rfl)
  intro j v hv
  have hj : j < L.length * 13 := by have := (List.getElem?_eq_some_iff.1 hv).1; rwa [flat_length, List.length_set] at this
  have hl2 : j / 13 < L.length := by omega
  by_cases e : j = i * 13 + 1
  · subst e
    have e2 : (L.set i { r with id := z })[i]? = some { r with id := z } := by simp [hlt]
    have e3 := flat_get (L.set i { r with id := z }) i 1 { r with id := z } _ e2 rfl
    rw [e3] at hv
    cases hv
    refine ⟨World.cell?_setCell_same _ _ _ hold.1, ?_⟩
    rw [World.frozen?_setCell]; exact hold.2
  · have hsame : (flat L)[j]? = some v := by
      have hjj : j = (j / 13) * 13 + j % 13 := by omega
      have hm : j % 13 < 13 := Nat.mod_lt _ (by omega)
      by_cases e1 : j / 13 = i
      · have e2 : (L.set i { r with id := z })[j / 13]? = some { r with id := z } := by rw [e1]; simp [hlt]
        have hc : ({ r with id := z } : Rw).cs[j % 13]? = r.cs[j % 13]? := by
          have : j % 13 ≠ 1 := fun q => e (by omega)
          match hq : j % 13, this with
          | 0, _ => rfl
          | 2, _ => rfl
          | 3, _ => rfl
          | 4, _ => rfl
          | 5, _ => rfl
          | 6, _ => rfl
          | 7, _ => rfl
          | 8, _ => rfl
          | 9, _ => rfl
          | 10, _ => rfl
          | 11, _ => rfl
          | 12, _ => rfl
          | n + 13, _ => omega
        have hlen : j % 13 < r.cs.length := by rw [Rw.cs_length]; exact hm
        have e3 := flat_get _ (j / 13) (j % 13) _ _ e2 (hc.trans (List.getElem?_eq_getElem hlen))
        have e4 := flat_get L (j / 13) (j % 13) r _ (by rw [e1]; exact hi) (List.getElem?_eq_getElem hlen)
        rw [← hjj] at e3 e4
        rw [e3] at hv
        rw [e4]; exact hv
      · have e2 : (L.set i { r with id := z })[j / 13]? = L[j / 13]? := by rw [List.getElem?_set_ne (fun q => e1 q.symm)]
        have hq := List.getElem?_eq_getElem hl2
        have hlen : j % 13 < (L[j / 13]).cs.length := by rw [Rw.cs_length]; exact hm
        have e3 := flat_get _ (j / 13) (j % 13) _ _ (e2.trans hq) (List.getElem?_eq_getElem hlen)
        have e4 := flat_get L (j / 13) (j % 13) _ _ hq (List.getElem?_eq_getElem hlen)
        rw [← hjj] at e3 e4
        rw [e3] at hv
        rw [e4]; exact hv
    have := h j v hsame
    refine ⟨?_, ?_⟩
    · rw [World.cell?_setCell_other _ _ _ _ (fun q => e (by injection q with _ q2; omega))]; exact this.1
    · rw [World.frozen?_setCell]; exact this.2

end Go.Proofs.YtojnniacmmcddaaDoor
