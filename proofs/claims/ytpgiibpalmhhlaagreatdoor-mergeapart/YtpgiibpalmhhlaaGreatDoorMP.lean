/-
  Texts in one: P0, P1, X0, X1, W0, P2, P3, P4.
-/
import Derived.Test.YtpgiibpalmhhlaaGreatDoorMT
import Derived.Deep.CutBlock
import Derived.Deep.DeepCutAuto
namespace Go.Proofs.YtpgiibpalmhhlaaGreatDoor
open Go.RowKit
open Go.Lib hiding intOf
set_option linter.unusedVariables false
set_option linter.unusedSimpArgs false

theorem cmpL_gt {a b : List UInt8} (h : ¬ cmpL a b < 0) (hne : a ≠ b) : cmpL b a < 0 := by
  have h1 := cmpL_swap a b
  have h2 : cmpL a b ≠ 0 := fun e => hne ((cmpL_zero a b).1 e)
  omega

theorem cmpL_irrefl (a : List UInt8) : ¬ cmpL a a < 0 := by rw [cmpL_self]; omega

theorem take_lt {L : List Rw} {s : List UInt8} (h : Srt L) {r : Rw} (hr : r ∈ L.take (ix L s)) : cmpL r.p s < 0 := by
  obtain ⟨i, hi⟩ := List.mem_iff_getElem?.1 hr
  rw [List.getElem?_take] at hi
  split at hi
  · next hlt => exact (ix_iff L s h i r hi).2 hlt
  · cases hi

theorem drop_ge {L : List Rw} {s : List UInt8} (h : Srt L) {r : Rw} {k : Nat} (hk : ix L s ≤ k) (hr : r ∈ L.drop k) : ¬ cmpL r.p s < 0 := by
  obtain ⟨i, hi⟩ := List.mem_iff_getElem?.1 hr
  rw [List.getElem?_drop] at hi
  intro hc
  have := (ix_iff L s h _ r hi).1 hc
  omega

/-- a path that isn't there is no row's -/
theorem not_there {L : List Rw} {s : List UInt8} (h : Srt L) (hf : fd L s = false) : ∀ r ∈ L, r.p ≠ s := by
  intro r hr e
  obtain ⟨i, hi⟩ := List.mem_iff_getElem?.1 hr
  subst e
  have h1 : ¬ i < ix L r.p := fun q => cmpL_irrefl _ ((ix_iff L r.p h i r hi).2 q)
  have hlt : i < L.length := (List.getElem?_eq_some_iff.1 hi).1
  have hx : ix L r.p < L.length := by omega
  have hq : L[ix L r.p]? = some L[ix L r.p] := List.getElem?_eq_getElem hx
  have h2 : ¬ cmpL (L[ix L r.p]).p r.p < 0 := fun q => by have := (ix_iff L r.p h _ _ hq).1 q; omega
  by_cases c : i = ix L r.p
  · subst c
    unfold fd at hf
    rw [hi] at hf
    simp [cmpL_self] at hf
  · have := (List.pairwise_iff_getElem.1 h) (ix L r.p) i hx hlt (by omega)
    have e2 : L[i] = r := (List.getElem?_eq_some_iff.1 hi).2
    rw [e2] at this
    exact h2 this

theorem drop_gt {L : List Rw} {r0 : Rw} (h : Srt L) {r : Rw} (hr : r ∈ L.drop (ix L r0.p + if fd L r0.p then 1 else 0)) : cmpL r0.p r.p < 0 := by
  have hge : ¬ cmpL r.p r0.p < 0 := drop_ge h (by split <;> omega) hr
  refine cmpL_gt hge fun e => ?_
  cases hf : fd L r0.p with
  | false => exact not_there h hf r (List.mem_of_mem_drop hr) e
  | true =>
    rw [hf] at hr
    simp only [if_true] at hr
    obtain ⟨q, hq, hqp⟩ := fd_some hf
    obtain ⟨i, hi⟩ := List.mem_iff_getElem?.1 hr
    rw [List.getElem?_drop] at hi
    obtain ⟨h1, h2⟩ := List.getElem?_eq_some_iff.1 hq
    obtain ⟨h3, h4⟩ := List.getElem?_eq_some_iff.1 hi
    have := (List.pairwise_iff_getElem.1 h) (ix L r0.p) (ix L r0.p + 1 + i) h1 h3 (by omega)
    rw [h2, h4, hqp, e] at this
    exact cmpL_irrefl _ this

theorem Srt.put {L : List Rw} (h : Srt L) (r : Rw) : Srt (putL L r) := by
  unfold putL Srt
  rw [List.append_assoc]
  refine List.pairwise_append.2 ⟨h.sublist (List.take_sublist _ _), ?_, ?_⟩
  · rw [List.singleton_append]
    exact List.pairwise_cons.2 ⟨fun q hq => drop_gt h hq, h.sublist (List.drop_sublist _ _)⟩
  · intro a ha b hb
    have h1 := take_lt h ha
    rw [List.singleton_append] at hb
    rcases List.mem_cons.1 hb with rfl | hb
    · exact h1
    · exact cmpL_lt_trans _ _ _ h1 (drop_gt h hb)

/-- the rows behind: the new one, and the others of other paths -/
theorem mem_put {L : List Rw} (h : Srt L) (r q : Rw) : q ∈ putL L r ↔ q = r ∨ (q ∈ L ∧ q.p ≠ r.p) := by
  unfold putL
  simp only [List.mem_append, List.mem_singleton]
  constructor
  · rintro ((hq | rfl) | hq)
    · refine .inr ⟨List.mem_of_mem_take hq, fun e => ?_⟩
      have := take_lt h hq
      rw [e] at this
      exact cmpL_irrefl _ this
    · exact .inl rfl
    · refine .inr ⟨List.mem_of_mem_drop hq, fun e => ?_⟩
      have := drop_gt h hq
      rw [e] at this
      exact cmpL_irrefl _ this
  · rintro (rfl | ⟨hq, hne⟩)
    · exact .inl (.inr rfl)
    · obtain ⟨i, hi⟩ := List.mem_iff_getElem?.1 hq
      have hlt : i < L.length := (List.getElem?_eq_some_iff.1 hi).1
      by_cases c : i < ix L r.p
      · refine .inl (.inl (List.mem_iff_getElem?.2 ⟨i, ?_⟩))
        rw [List.getElem?_take, if_pos c]; exact hi
      · refine .inr (List.mem_iff_getElem?.2 ⟨i - (ix L r.p + if fd L r.p then 1 else 0), ?_⟩)
        rw [List.getElem?_drop]
        have hle : ix L r.p + (if fd L r.p then 1 else 0) ≤ i := by
          cases hf : fd L r.p with
          | false => simp; omega
          | true =>
            obtain ⟨q', hq1, hq2⟩ := fd_some hf
            have : i ≠ ix L r.p := fun e => by
              rw [e, hq1] at hi
              exact hne (by rw [← Option.some.inj hi]; exact hq2)
            simp; omega
        rw [Nat.add_sub_cancel' hle]
        exact hi

end Go.Proofs.YtpgiibpalmhhlaaGreatDoor

namespace Go.Proofs.YtpgiibpalmhhlaaGreatDoor
open Go.RowKit
open Go.Lib hiding intOf
set_option linter.unusedVariables false
set_option linter.unusedSimpArgs false

theorem up_len {l : List UInt8} (h : l ≠ []) : (upL l).length < l.length := by
  unfold upL
  have hp : 0 < l.length := List.length_pos_iff.2 h
  rw [List.length_take]
  rcases Lib.lastIdx_spec (bs l) 47 (bs l).size with ⟨h1, _⟩ | ⟨i, hi, h1, _, _⟩
  · have h1' : Lib.lastIndexByte (bs l) 47 = -1 := h1
    rw [h1']
    show min 0 _ < _
    omega
  · have h1' : Lib.lastIndexByte (bs l) 47 = i := h1
    rw [h1', Int.toNat_natCast]
    rw [bs_size] at hi
    omega

/-- a path and all directories in which it lies, the root apart -/
def chain (u : List UInt8) : List (List UInt8) := if h : u = [] then [] else u :: chain (upL u)
termination_by u.length
decreasing_by exact up_len h

theorem chain_nil : chain [] = [] := by rw [chain]; simp
theorem chain_cons {u : List UInt8} (h : u ≠ []) : chain u = u :: chain (upL u) := by rw [chain]; simp [h]

theorem chain_le (u : List UInt8) : ∀ x ∈ chain u, x.length ≤ u.length ∧ x ≠ [] := by
  generalize hn : u.length = n
  induction n using Nat.strongRecOn generalizing u with
  | _ n ih =>
    intro x hx
    by_cases h : u = []
    · subst h; rw [chain_nil] at hx; cases hx
    · rw [chain_cons h] at hx
      rcases List.mem_cons.1 hx with rfl | hx
      · exact ⟨by omega, h⟩
      · have hl := up_len h
        have := ih (upL u).length (by omega) (upL u) rfl x hx
        exact ⟨by omega, this.2⟩

theorem chain_len (u : List UInt8) : (chain u).length ≤ u.length := by
  generalize hn : u.length = n
  induction n using Nat.strongRecOn generalizing u with
  | _ n ih =>
    by_cases h : u = []
    · subst h; rw [chain_nil]; simp
    · rw [chain_cons h, List.length_cons]
      have hl := up_len h
      have := ih (upL u).length (by omega) (upL u) rfl
      omega

/-- a directory that nobody named -/
def mkR (u : List UInt8) : Rw := ⟨u, 0, 4, 493, 0, true⟩

/-- append of one row, which was built just ahead, to rows of one's own, be they none -/
theorem wpList_row1 {W : World} {ops : Array Oper} {rest : List Oper} {o : Oper} {a : Act} {Q : Exit → Act → World → Prop} (hgd : o.guard = none) (s x : Operand)
    (ho : o.op = .call { callee := .builtin .append, args := #[s, x], argTypes := #[24, 24] })
    (B : Nat) (v : Value) (L : List Rw) (r : Rw) (hs : a.eval s = v) (hown : Ow W B v L) (hB : B ≤ W.heap.size) (hx : a.eval x = .slice (some ⟨W.heap.size, 0, none⟩) 1 1) (hl : L.length ≤ 1000000)
    (h : ∀ g' c' w', Ow w' B (.slice (some ⟨g', 0, none⟩) (L.length + 1) c') (L ++ [r]) → Below B W w' → wpList Tryz.prog ops Q rest (a.put o.dst (.slice (some ⟨g', 0, none⟩) (L.length + 1) c')) w') : wpList Tryz.prog ops Q (o :: rest) a (W.alloc (.cells r.cs.toArray 43)) := by
  obtain ⟨i0, hi0, hi1, hi2, z, hz, hzs⟩ := i40
  have bA : Below W.heap.size W (W.alloc (.cells r.cs.toArray 43)) := below_box W _
  have hown2 : (W.alloc (.cells r.cs.toArray 43)).ownsRow B 43 13 v L.length (flat L) := World.ownsRow.alloc hown _
  refine wpList_append_own _ hgd s x 24 ho B 43 i0 z 13 152 Tryz.underlying24 hi0 hz hi1 hi2 hzs (by decide) _ _ _ hs hown2 ⟨W.heap.size, 0, none⟩ 1 1 r.cs hx rfl ?_ (cs_one r) ?_ ?_ ?_ ?_
  · intro q u hu
    rw [Addr.add_mid, Nat.zero_add, World.cell?_alloc_new]
    simpa using hu
  · unfold maxLen; omega
  · omega
  · rw [size_box]; omega
  · intro v' w3 hown' hgrow hh
    have b3 : Below B W w3 := (bA.mono hB).grown hgrow (by rw [size_box]; omega) (fun k hk => by
      rcases hown.2 with ⟨e1, _⟩ | ⟨g', cp, cur, e1, e2, _⟩
      · subst e1; simp [Value.ownBlock] at hk
      · subst e1; simp [Value.ownBlock] at hk; omega)
    obtain ⟨g', c', rfl⟩ : ∃ g' c', v' = .slice (some ⟨g', 0, none⟩) (L.length + 1) c' := by
      rcases hown'.2 with ⟨e1, e2⟩ | ⟨g', c', cur, e1, _⟩
      · omega
      · exact ⟨g', c', e1⟩
    refine h g' c' w3 ?_ b3
    unfold Ow
    rw [flat_append, flat_cons, flat_nil, List.append_nil, List.length_append]
    exact hown'

/-- rows of one's own may be written -/
theorem Ow.hr {w : World} {B g n c : Nat} {L : List Rw} (h : Ow w B (.slice (some ⟨g, 0, none⟩) n c) L) : Hr w g L := by
  rcases h.2 with ⟨e1, _⟩ | ⟨g', cap, cur, e1, e2, e3, e4, e5, e6, e7⟩
  · cases e1
  · cases e1
    intro j v hv
    refine ⟨?_, frozen_of_row w g j cur 43 e3⟩
    unfold World.cell?
    simp only [e3]
    rw [← e7, List.getElem?_take] at hv
    split at hv
    · simpa using hv
    · cases hv

/-- a number is set in one of them -/
theorem Hr.setId {w : World} {g : Nat} {L : List Rw} (h : Hr w g L) (i : Nat) (r : Rw) (hi : L[i]? = some r) (z : Int) : Hr (w.setCell ⟨g, i * 13 + 1, none⟩ (.int .i64 z)) g (L.set i { r with id := z }) := by
  have hlt : i < L.length := (List.getElem?_eq_some_iff.1 hi).1
  have hold := h (i * 13 + 1) _ (flat_get L i 1 r _ hi rfl)
  intro j v hv
  have hj : j < L.length * 13 := by have := (List.getElem?_eq_some_iff.1 hv).1; rwa [flat_length, List.length_set] at this
  have hl2 : j / 13 < L.length := by omega
  by_cases e : j = i * 13 + 1
  · subst e
    have e2 : (L.set i { r with id := z })[i]? = some { r with id := z } := by simp [hlt]
    have e3 := flat_get (L.set i { r with id := z }) i 1 { r with id := z } _ e2 rfl
    rw [e3] at hv
    cases hv
    refine ⟨World.cell?_setCell_same _ _ _ hold.1, ?_⟩
    rw [World.frozen?_setCell]; exact hold.2
  · have hsame : (flat L)[j]? = some v := by
      have hjj : j = (j / 13) * 13 + j % 13 := by omega
      have hm : j % 13 < 13 := Nat.mod_lt _ (by omega)
      by_cases e1 : j / 13 = i
      · have e2 : (L.set i { r with id := z })[j / 13]? = some { r with id := z } := by rw [e1]; simp [hlt]
        have hc : ({ r with id := z } : Rw).cs[j % 13]? = r.cs[j % 13]? := by
          have : j % 13 ≠ 1 := fun q => e (by omega)
          match hq : j % 13, this with
          | 0, _ => rfl
          | 2, _ => rfl
          | 3, _ => rfl
          | 4, _ => rfl
          | 5, _ => rfl
          | 6, _ => rfl
          | 7, _ => rfl
          | 8, _ => rfl
          | 9, _ => rfl
          | 10, _ => rfl
          | 11, _ => rfl
          | 12, _ => rfl
          | n + 13, _ => omega
        have hlen : j % 13 < r.cs.length := by rw [Rw.cs_length]; exact hm
        have e3 := flat_get _ (j / 13) (j % 13) _ _ e2 (hc.trans (List.getElem?_eq_getElem hlen))
        have e4 := flat_get L (j / 13) (j % 13) r _ (by rw [e1]; exact hi) (List.getElem?_eq_getElem hlen)
        rw [← hjj] at e3 e4
        rw [e3] at hv
        rw [e4]; exact hv
      · have e2 : (L.set i { r with id := z })[j / 13]? = L[j / 13]? := by rw [List.getElem?_set_ne (fun q => e1 q.symm)]
        have hq := List.getElem?_eq_getElem hl2
        have hlen : j % 13 < (L[j / 13]).cs.length := by rw [Rw.cs_length]; exact hm
        have e3 := flat_get _ (j / 13) (j % 13) _ _ (e2.trans hq) (List.getElem?_eq_getElem hlen)
        have e4 := flat_get L (j / 13) (j % 13) _ _ hq (List.getElem?_eq_getElem hlen)
        rw [← hjj] at e3 e4
        rw [e3] at hv
        rw [e4]; exact hv
    have := h j v hsame
    refine ⟨?_, ?_⟩
    · rw [World.cell?_setCell_other _ _ _ _ (fun q => e (by injection q with _ q2; omega))]; exact this.1
    · rw [World.frozen?_setCell]; exact this.2

end Go.Proofs.YtpgiibpalmhhlaaGreatDoor

namespace Go.Proofs.YtpgiibpalmhhlaaGreatDoor
open Go.RowKit
open Go.Lib hiding intOf
set_option linter.unusedVariables false
set_option linter.unusedSimpArgs false

theorem Ow.below {W W' : World} {B : Nat} {v : Value} {L : List Rw} (h : Ow W B v L) (b : Below W.heap.size W W') : Ow W' B v L := by
  refine ⟨h.1, ?_⟩
  rcases h.2 with ⟨e1, e2⟩ | ⟨g, cap, cur, e1, e2, e3, e4, e5, e6, e7⟩
  · exact .inl ⟨e1, e2⟩
  · exact .inr ⟨g, cap, cur, e1, e2, by rw [b.block g (Array.getElem?_eq_some_iff.1 e3).1]; exact e3, e4, e5, e6, e7⟩

theorem Two.nextB {w W W' : World} {C D : Array Value} {t u : TypeId} (h : Two w W C D t u) (b : Below (w.heap.size + 2) W W') : Two w W' C D t u :=
  ⟨by rw [b.block _ (by omega)]; exact h.1, by rw [b.block _ (by omega)]; exact h.2.1, h.2.2.1.trans (b.mono (by omega)), Nat.le_trans h.2.2.2 b.size⟩

/-- the rows of the directories that are made, the nearest first -/
def mds (E : Nat → List UInt8) (i : Nat) : List Rw := (List.range i).map fun k => mkR (E k)
theorem mds_succ (E : Nat → List UInt8) (i : Nat) : mds E (i + 1) = mds E i ++ [mkR (E i)] := by
  unfold mds; rw [List.range_succ, List.map_append]; rfl
theorem mds_length (E : Nat → List UInt8) (i : Nat) : (mds E i).length = i := by unfold mds; simp

/-- rows that may be written: what they are when they are numbered -/
def numb (nx : Int) (L : List Rw) (i : Nat) : List Rw := L.mapIdx fun k r => if k < i then { r with id := nx + (k : Int) } else r
theorem numb_zero (nx : Int) (L : List Rw) : numb nx L 0 = L := by
  unfold numb
  apply List.ext_getElem?
  intro k
  rw [List.getElem?_mapIdx]
  simp
theorem numb_length (nx : Int) (L : List Rw) (i : Nat) : (numb nx L i).length = L.length := by unfold numb; simp
theorem numb_get (nx : Int) (L : List Rw) (i : Nat) (r : Rw) (h : L[i]? = some r) : (numb nx L i)[i]? = some r := by
  unfold numb
  rw [List.getElem?_mapIdx, h]
  simp
theorem numb_succ (nx : Int) (L : List Rw) (i : Nat) (r : Rw) (h : L[i]? = some r) : (numb nx L i).set i { r with id := nx + (i : Int) } = numb nx L (i + 1) := by
  apply List.ext_getElem?
  intro k
  unfold numb
  rw [List.getElem?_set, List.getElem?_mapIdx, List.getElem?_mapIdx]
  have hlt := (List.getElem?_eq_some_iff.1 h).1
  by_cases e : i = k
  · subst e
    rw [if_pos rfl, h]
    simp [hlt]
  · rw [if_neg e]
    cases hk : L[k]? with
    | none => rfl
    | some q =>
      by_cases c : k < i
      · simp [c, Nat.lt_succ_of_lt c]
      · have : ¬ k < i + 1 := by omega
        simp [c, this]

theorem Hr.rs {w : World} {g : Nat} {L : List Rw} (h : Hr w g L) (hg : g < w.heap.size) : Rs w (some ⟨g, 0, none⟩) L :=
  .inr ⟨g, 0, rfl, hg, fun j v hv => by rw [Nat.zero_add]; exact (h j v hv).1⟩

theorem Hr.below {w w' : World} {g : Nat} {L : List Rw} (h : Hr w g L) (b : Below w.heap.size w w') (hg : g < w.heap.size) : Hr w' g L := fun j v hv => by
  have := h j v hv
  refine ⟨by rw [b.cell (p := ⟨g, j, none⟩) hg]; exact this.1, ?_⟩
  have e := b.block g hg
  have h2 := this.2
  unfold World.frozen? at h2 ⊢
  simp only [e]
  exact h2

theorem wpList_row2 {W' : World} {ops : Array Oper} {rest : List Oper} {o : Oper} {a : Act} {Q : Exit → Act → World → Prop} (hgd : o.guard = none) (s x : Operand)
    (ho : o.op = .call { callee := .builtin .append, args := #[s, x], argTypes := #[24, 24] })
    (W : World) (B : Nat) (v : Value) (L : List Rw) (r : Rw) (hW : W' = W.alloc (.cells r.cs.toArray 43)) (hs : a.eval s = v) (hown : Ow W B v L) (hB : B ≤ W.heap.size) (hx : a.eval x = .slice (some ⟨W.heap.size, 0, none⟩) 1 1) (hl : L.length ≤ 1000000)
    (h : ∀ g' c' w', Ow w' B (.slice (some ⟨g', 0, none⟩) (L.length + 1) c') (L ++ [r]) → Below B W w' → wpList Tryz.prog ops Q rest (a.put o.dst (.slice (some ⟨g', 0, none⟩) (L.length + 1) c')) w') : wpList Tryz.prog ops Q (o :: rest) a W' := by
  subst hW
  exact wpList_row1 hgd s x ho B v L r hs hown hB hx hl h

theorem wrap_nx {nx : Int} {i m : Nat} (h : 0 ≤ nx ∧ nx ≤ 1000000000000) (h3 : i ≤ m) (h4 : m ≤ 1000) : wrap64 (nx + (i : Int)) = nx + (i : Int) := by unfold wrap64; omega
theorem wrapk_nx {nx : Int} {m : Nat} (h : 0 ≤ nx ∧ nx ≤ 1000000000000) (h4 : m ≤ 1000) : IntKind.i64.wrap (nx + (m : Int)) = nx + (m : Int) := by rw [IntKind.wrap_i64]; omega
theorem wrap_i1 {i m : Nat} (h3 : i ≤ m) (h4 : m ≤ 1000) : wrap64 ((i : Int) + 1) = (i : Int) + 1 := by unfold wrap64; omega

def strLen : Value → Nat
  | .string b => b.size
  | _ => 0

set_option maxRecDepth 20000 in
set_option maxHeartbeats 4000000 in
theorem wp_core (ad : Option Addr) (cap n m : Nat) (nx : Int) (s : List UInt8) (E : Nat → List UInt8) (X : Nat → Nat) (w : World) (K : List Rw) (hn : n ≤ 1000000) (hcap : n ≤ cap) (hm : 0 < m) (hm2 : m ≤ 1000) (hnx : 0 ≤ nx ∧ nx ≤ 1000000000000)
    (KU0 : Hid (∀ W, Calls Tryz.prog 60 #[.string (bs s)] W fun e w' => e = .returned (.tuple #[.string (bs (E 0)), .bool true]) ∧ w' = W))
    (KU : Hid (∀ i, i < m → ∀ W, Calls Tryz.prog 60 #[.string (bs (E i))] W fun e w' => e = .returned (.tuple #[.string (bs (E (i + 1))), .bool true]) ∧ w' = W))
    (KQ : Hid (∀ i, i < m → ∀ W, Below w.heap.size w W → Calls Tryz.prog 59 #[.agg #[.slice ad n cap, .int .i64 nx], .string (bs (E i))] W fun e w' => e = .returned (.tuple #[.int .i64 (X i : Int), .bool false]) ∧ Below W.heap.size W w'))
    (hE : Hid (∀ i, i < m → (E i).isEmpty = false)) (hX : Hid (∀ i, i < m → X i ≤ n)) (hD : Hid (∀ i, i < m → (E (i + 1)).length < (E i).length))
    (KZ : Hid (E m = [] ∨ ((E m).isEmpty = false ∧ X m < n ∧ (∀ W, Below w.heap.size w W → Calls Tryz.prog 59 #[.agg #[.slice ad n cap, .int .i64 nx], .string (bs (E m))] W fun e w' => e = .returned (.tuple #[.int .i64 (X m : Int), .bool true]) ∧ Below W.heap.size W w') ∧ ∃ (r : Rw) (b o : Nat), r.kind = 4 ∧ ad = some ⟨b, o, none⟩ ∧ (∀ W, Below w.heap.size w W → W.rangeAt b (o + X m * 13) r.cs))))
    (KC : Hid (∀ W g gr cr, Below w.heap.size w W → W.cell? ⟨g, 0, none⟩ = some (.slice ad (X (m - 1)) cap) → W.cell? ⟨g, 1, none⟩ = some (.slice (some ⟨gr, 0, none⟩) m cr) → W.cell? ⟨g, 2, none⟩ = some (.slice (lowAt ad cap (X (m - 1))) (n - X (m - 1)) (cap - X (m - 1))) → Rs W (some ⟨gr, 0, none⟩) (numb nx (mds E m).reverse m) →
      Calls Tryz.prog 62 #[.slice (some ⟨g, 0, none⟩) 3 3] W fun e w' => ∃ gd c, e = .returned (.slice (some ⟨gd, 0, none⟩) K.length c) ∧ Rs w' (some ⟨gd, 0, none⟩) K ∧ W.heap.size ≤ gd ∧ K.length ≤ c ∧ Below W.heap.size W w')) :
    Calls Tryz.prog 43 #[.agg #[.slice ad n cap, .int .i64 nx], .string (bs s)] w fun e w' => ∃ gd c, e = .returned (.tuple #[.agg #[.slice (some ⟨gd, 0, none⟩) K.length c, .int .i64 (nx + (m : Int))], .int .i64 0]) ∧ Rs w' (some ⟨gd, 0, none⟩) K ∧ w.heap.size ≤ gd ∧ K.length ≤ c ∧ Below w.heap.size w w' := by
  have H0 := Two.mk0 w #[.slice ad n cap, .int .i64 nx] #[.slice none 0 0, .int .i64 0] 26 26
  have O0 : Ow ((w.alloc (.cells #[.slice ad n cap, .int .i64 nx] 26)).alloc (.cells #[.slice none 0 0, .int .i64 0] 26)) (w.heap.size + 2) (.slice none 0 0) (mds E 0) := ⟨rfl, .inl ⟨rfl, rfl⟩⟩
  go_enter Tryz.func43, Tryz.ntmps43
  go_upto_block 0 with (go_at_call 60; refine (KU0.out _).mono ?_; rintro e w' ⟨rfl, hw⟩; rw [hw])
  generalize (w.alloc _).alloc _ = w0 at *
  go_cut [6, 7] (fun s6 s7 wx => ∃ g c, s6 = .slice (some ⟨g, 0, none⟩) m c ∧ s7 = .int .i64 (X (m - 1) : Int) ∧ Hid (Two w wx #[.slice ad n cap, .int .i64 nx] #[.slice none 0 0, .int .i64 0] 26 26) ∧ Hid (Ow wx (w.heap.size + 2) (.slice (some ⟨g, 0, none⟩) m c) (mds E m)))
  case first =>
    go_wp2_with fail
    go_loopw [6, 7, 8] (fun x6 x7 x8 wr => ∃ (i : Nat) (z : Int), i ≤ m ∧ x8 = .string (bs (E i)) ∧ x7 = .int .i64 z ∧ (0 < i → z = (X (i - 1) : Int)) ∧ Hid (Two w wr #[.slice ad n cap, .int .i64 nx] #[.slice none 0 0, .int .i64 0] 26 26) ∧ Hid (Ow wr (w.heap.size + 2) x6 (mds E i))) (fun _ _ x8 _ => strLen x8)
    case atStart => exact ⟨0, 0, Nat.zero_le _, rfl, rfl, fun h => by omega, H0, O0⟩
    case round =>
      obtain ⟨i, z, hi, rfl, rfl, hz, H1, O1⟩ := hrel
      have ht := bs_toList (E i)
      by_cases hlt : i < m
      · have hE1 := hE.out i hlt
        have KU1 : Hid (∀ W, Calls Tryz.prog 60 #[.string (bs (E i))] W fun e w' => e = .returned (.tuple #[.string (bs (E (i + 1))), .bool true]) ∧ w' = W) := KU.out i hlt
        have KQ1 : Hid (∀ W, Below w.heap.size w W → Calls Tryz.prog 59 #[.agg #[.slice ad n cap, .int .i64 nx], .string (bs (E i))] W fun e w' => e = .returned (.tuple #[.int .i64 (X i : Int), .bool false]) ∧ Below W.heap.size W w') := KQ.out i hlt
        have hml : Hid ((mds E i).length ≤ 1000000) := (by show _ ≤ _; rw [mds_length]; omega)
        have hD1 := hD.out i hlt
        have hC := cells_of H1.out.1
        go_upto_region 11 with (go_at_call 59; refine (KQ1.out _ H1.out.2.2.1).mono ?_; rintro e w2 ⟨rfl, b2⟩)
        have H2 : Hid (Two w w2 _ _ _ _) := H1.out.next b2
        have O2 : Hid (Ow w2 _ _ _) := O1.out.below b2
        clear hC b2
        have hB2 : Hid (w.heap.size + 2 ≤ w2.heap.size) := H2.out.2.2.2
        go_wp2_with (first
          | (at_builtin; refine wpList_row2 rfl _ _ rfl w2 (w.heap.size + 2) _ (mds E i) (mkR (E i)) rfl rfl O2.out hB2.out rfl hml.out ?_; intro g3 c3 w3 O3 b3)
          | (go_at_call 60; refine (KU1.out _).mono ?_; rintro e w' ⟨rfl, hw⟩; rw [hw]))
        go_roundw
        case rel =>
          refine ⟨i + 1, (X i : Int), hlt, rfl, rfl, fun _ => rfl, H2.out.nextB b3, ?_⟩
          show Ow _ _ _ _
          rw [mds_succ]
          exact O3
        case measure => show (bs (E (i + 1))).size < (bs (E i)).size; rw [bs_size, bs_size]; exact hD1
      · obtain rfl : i = m := by omega
        have hz1 := hz hm
        rw [hz1]
        have hform : ∃ g c, u6 = .slice (some ⟨g, 0, none⟩) i c := by
          rcases O1.out.2 with ⟨e1, e2⟩ | ⟨g, c, cur, e1, _⟩
          · rw [mds_length] at e2; omega
          · rw [mds_length] at e1; exact ⟨g, c, e1⟩
        obtain ⟨g, c, rfl⟩ := hform
        rcases KZ.out with h0 | ⟨h0, hXn, KE, r, b, o, hk, rfl, hB⟩
        · rw [h0] at ht ⊢
          clear KU KQ hE hX hD KZ KU0 KC
          go_wp2_with fail
          go_meet
          case rel => exact ⟨g, c, rfl, rfl, H1, O1⟩
        · have KE1 : Hid (∀ W, Below w.heap.size w W → Calls Tryz.prog 59 #[.agg #[.slice (some ⟨b, o, none⟩) n cap, .int .i64 nx], .string (bs (E i))] W fun e w' => e = .returned (.tuple #[.int .i64 (X i : Int), .bool true]) ∧ Below W.heap.size W w') := KE
          have HB : Hid (∀ W, Below w.heap.size w W → W.rangeAt b (o + X i * 13) r.cs) := hB
          have KD : Hid (∀ W, Calls Tryz.prog 42 #[.agg r.cs.toArray] W fun e w' => e = .returned (.bool true) ∧ Below W.heap.size W w') := fun W => by
            have := isDir_w r W
            rwa [decide_eq_true hk] at this
          unfold Rw.cs at KD
          have h1 : (0 : Int) ≤ (X i : Int) := by omega
          have h2 : (X i : Int) < (n : Int) := by omega
          clear KU KQ hE hX hD KZ KU0 KC KE hB hk hXn
          have hC := cells_of H1.out.1
          go_upto_region 7 with (go_at_call 59; refine (KE1.out _ H1.out.2.2.1).mono ?_; rintro e w2 ⟨rfl, b2⟩)
          have H2 : Hid (Two w w2 _ _ _ _) := H1.out.next b2
          have O2 : Hid (Ow w2 _ _ _) := O1.out.below b2
          have c2 := cells_of H2.out.1
          have hR := HB.out _ H2.out.2.2.1
          have x0 : w2.cell? ⟨b, o + X i * 13, none⟩ = some (.string (bs r.p)) := hR 0 _ rfl
          have x1 : w2.cell? ⟨b, o + X i * 13 + 1, none⟩ = some (.int .i64 r.id) := hR 1 _ rfl
          have x2 : w2.cell? ⟨b, o + X i * 13 + 2, none⟩ = some (.int .i64 r.kind) := hR 2 _ rfl
          have x3 : w2.cell? ⟨b, o + X i * 13 + 3, none⟩ = some (.int .i64 r.mode) := hR 3 _ rfl
          have x4 : w2.cell? ⟨b, o + X i * 13 + 4, none⟩ = some (.int .i64 0) := hR 4 _ rfl
          have x5 : w2.cell? ⟨b, o + X i * 13 + 5, none⟩ = some (.int .i64 0) := hR 5 _ rfl
          have x6 : w2.cell? ⟨b, o + X i * 13 + 6, none⟩ = some (.int .i64 0) := hR 6 _ rfl
          have x7 : w2.cell? ⟨b, o + X i * 13 + 7, none⟩ = some (.string ⟨#[]⟩) := hR 7 _ rfl
          have x8 : w2.cell? ⟨b, o + X i * 13 + 8, none⟩ = some (.string ⟨#[]⟩) := hR 8 _ rfl
          have x9 : w2.cell? ⟨b, o + X i * 13 + 9, none⟩ = some (.string ⟨#[]⟩) := hR 9 _ rfl
          have x10 : w2.cell? ⟨b, o + X i * 13 + 10, none⟩ = some (.slice none 0 0) := hR 10 _ rfl
          have x11 : w2.cell? ⟨b, o + X i * 13 + 11, none⟩ = some (.int .i64 r.size) := hR 11 _ rfl
          have x12 : w2.cell? ⟨b, o + X i * 13 + 12, none⟩ = some (.bool r.made) := hR 12 _ rfl
          clear HB hR hC b2
          go_wp2_with (go_at_call 42; refine (KD.out _).mono ?_; rintro e w3 ⟨rfl, b3⟩; have H3 : Hid (Two w w3 _ _ _ _) := H2.out.next b3; have O3 : Hid (Ow w3 _ _ _) := O2.out.below b3)
          go_meet
          case rel => exact ⟨g, c, rfl, rfl, H3, O3⟩
  case rest =>
    obtain ⟨g, c, rfl, rfl, H1, O1⟩ := hcut
    clear KU KQ hE hD KZ KU0 H0 O0
    have hXm := hX.out (m - 1) (by omega)
    clear hX
    generalize X (m - 1) = x at *
    have hm3 : (m : Int) ≠ 0 := by omega
    have hgB : w.heap.size + 2 ≤ g ∧ g < wc.heap.size := by
      rcases O1.out.2 with ⟨e1, _⟩ | ⟨g', cp, cur, e1, e2, e3, _⟩
      · cases e1
      · have hgg : g = g' := congrArg (fun v : Value => match v with | .slice (some a) _ _ => a.block | _ => 0) e1
        rw [hgg]; exact ⟨e2, (Array.getElem?_eq_some_iff.1 e3).1⟩
    have KR : Hid (Calls Tryz.prog 61 #[.slice (some ⟨g, 0, none⟩) m c] wc fun e w' => e = .returned (.tuple #[]) ∧ Hr w' g (mds E m).reverse ∧ wc.grownBy w' (some g)) := by
      have := reverse_w g c (mds E m) wc O1.out.hr (by rw [mds_length]; omega)
      rw [mds_length] at this
      exact this
    go_upto_region 15 with (go_at_call 61; refine KR.out.mono ?_; rintro e w4 ⟨rfl, R4, b4⟩)
    have b5 : Below (w.heap.size + 2) wc w4 := (Below.refl _ _).grown b4 (by have := H1.out.2.2.2; omega) (fun k hk => by cases hk; omega)
    have H4 : Hid (Two w w4 _ _ _ _) := H1.out.nextB b5
    have g4 : g < w4.heap.size := Nat.lt_of_lt_of_le hgB.2 b5.size
    have hRl : Hid ((mds E m).reverse.length = m) := (by show _ = _; rw [List.length_reverse, mds_length])
    have R5 : Hid (Hr w4 g (numb nx (mds E m).reverse 0)) := (by show Hr _ _ _; rw [numb_zero]; exact R4)
    clear R4 b4 b5 O1 H1 KR
    generalize (mds E m).reverse = RR at *
    go_wp2_with fail
    go_loopw [58] (fun x58 wr => ∃ i : Nat, x58 = .int .i64 (i : Int) ∧ i ≤ m ∧ g < wr.heap.size ∧ Hid (Two w wr #[.slice ad n cap, .int .i64 nx] #[.slice none 0 0, .int .i64 0] 26 26) ∧ Hid (Hr wr g (numb nx RR i))) (fun x58 _ => m - (intOf x58).toNat)
    case atStart => exact ⟨0, rfl, Nat.zero_le _, g4, H4, R5⟩
    case round =>
      obtain ⟨i, rfl, hi, gi, H5, R6⟩ := hrel
      by_cases hlt : i < m
      · obtain ⟨r, hr⟩ : ∃ r, RR[i]? = some r := ⟨_, List.getElem?_eq_getElem (by have := hRl.out; omega)⟩
        have hc := R6.out (i * 13 + 1) _ (flat_get _ i 1 r _ (numb_get nx RR i r hr) rfl)
        have hc1 := hc.1
        have hc2 := hc.2
        have R7 : Hid (Hr (wr.setCell ⟨g, i * 13 + 1, none⟩ (.int .i64 (nx + (i : Int)))) g (numb nx RR (i + 1))) := (by
          have := R6.out.setId i r (numb_get nx RR i r hr) (nx + (i : Int))
          rw [numb_succ nx RR i r hr] at this
          exact this)
        have H6 : Hid (Two w (wr.setCell ⟨g, i * 13 + 1, none⟩ (.int .i64 (nx + (i : Int)))) #[.slice ad n cap, .int .i64 nx] #[.slice none 0 0, .int .i64 0] 26 26) := H5.out.nextB ((Below.refl _ _).setCell (by show w.heap.size + 2 ≤ g; omega) _)
        have hT := cells_of H5.out.1
        have h1 : (0 : Int) ≤ (i : Int) := Int.natCast_nonneg i
        have h2 : (i : Int) < (m : Int) := Int.ofNat_lt.2 hlt
        clear hr hc hm3 hw hgB g4
        go_upto_region 19 with fail
        clear hc1 hc2
        go_wp2_with fail
        go_roundw
        case rel => exact ⟨i + 1, by simp, hlt, by simpa using gi, H6, R7⟩
        case measure => simp [intOf]; omega
      · obtain rfl : i = m := Nat.le_antisymm hi (Nat.not_lt.1 hlt)
        have q1 := fun W => run_lowAt W ad n cap x hXm
        have q2 := fun W => run_highAt W ad n cap x (Nat.le_trans hXm hcap)
        have hj1 : (0 : Int) ≤ (x : Int) := Int.natCast_nonneg x
        have hj2 : (x : Int) ≤ (n : Int) := Int.ofNat_le.2 hXm
        have hj3 : (x : Int) ≤ (cap : Int) := Int.ofNat_le.2 (Nat.le_trans hXm hcap)
        have L0 := H5.out
        have hb := below_box wr (.cells #[.slice ad x cap, .slice (some ⟨g, 0, none⟩) i c, .slice (lowAt ad cap x) (n - x) (cap - x)] 24)
        have LA : Hid (Two w (wr.alloc (.cells #[.slice ad x cap, .slice (some ⟨g, 0, none⟩) i c, .slice (lowAt ad cap x) (n - x) (cap - x)] 24)).drew #[.slice ad n cap, .int .i64 nx] #[.slice none 0 0, .int .i64 0] 26 26) := (L0.next hb).drew
        have lt0 : w.heap.size + 2 ≤ wr.heap.size := L0.2.2.2
        have szA : Hid ((wr.alloc (.cells #[.slice ad x cap, .slice (some ⟨g, 0, none⟩) i c, .slice (lowAt ad cap x) (n - x) (cap - x)] 24)).drew.heap.size = wr.heap.size + 1) := (by show (wr.alloc _).heap.size = _; exact size_box _ _)
        have KC1 : Hid (Calls Tryz.prog 62 #[.slice (some ⟨wr.heap.size, 0, none⟩) 3 3] (wr.alloc (.cells #[.slice ad x cap, .slice (some ⟨g, 0, none⟩) i c, .slice (lowAt ad cap x) (n - x) (cap - x)] 24)).drew fun e w' => ∃ gd c6, e = .returned (.slice (some ⟨gd, 0, none⟩) K.length c6) ∧ Rs w' (some ⟨gd, 0, none⟩) K ∧ (wr.alloc (.cells #[.slice ad x cap, .slice (some ⟨g, 0, none⟩) i c, .slice (lowAt ad cap x) (n - x) (cap - x)] 24)).drew.heap.size ≤ gd ∧ K.length ≤ c6 ∧ Below (wr.alloc (.cells #[.slice ad x cap, .slice (some ⟨g, 0, none⟩) i c, .slice (lowAt ad cap x) (n - x) (cap - x)] 24)).drew.heap.size (wr.alloc (.cells #[.slice ad x cap, .slice (some ⟨g, 0, none⟩) i c, .slice (lowAt ad cap x) (n - x) (cap - x)] 24)).drew w') := by
          have hh : (wr.alloc (.cells #[.slice ad x cap, .slice (some ⟨g, 0, none⟩) i c, .slice (lowAt ad cap x) (n - x) (cap - x)] 24)).drew.heap[wr.heap.size]? = some (.cells #[.slice ad x cap, .slice (some ⟨g, 0, none⟩) i c, .slice (lowAt ad cap x) (n - x) (cap - x)] 24) := heap_alloc_new wr _
          refine (KC.out _ _ g c LA.out.2.2.1 (cells_of hh 0) (cells_of hh 1) (cells_of hh 2) ((R6.out.below hb.drew gi).rs (Nat.lt_of_lt_of_le gi hb.drew.size))).mono ?_
          rintro e w' ⟨gd, c6, h1, h2, h3, h4, h5⟩
          exact ⟨gd, c6, h1, h2, h3, h4, h5⟩
        have HS : Hid (∀ W, Two w W #[.slice ad n cap, .int .i64 nx] #[.slice none 0 0, .int .i64 0] 26 26 → W.cell? ⟨w.heap.size, 0, none⟩ = some (.slice ad n cap) ∧ W.cell? ⟨w.heap.size, 1, none⟩ = some (.int .i64 nx)) := fun W h => ⟨cells_of h.1 0, cells_of h.1 1⟩
        have HK : Hid (∀ W p v, p.block = w.heap.size + 1 → (W.cell? ⟨w.heap.size, 0, none⟩ = some (.slice ad n cap) ∧ W.cell? ⟨w.heap.size, 1, none⟩ = some (.int .i64 nx)) → (fun W : World => W.cell? ⟨w.heap.size, 0, none⟩ = some (.slice ad n cap) ∧ W.cell? ⟨w.heap.size, 1, none⟩ = some (.int .i64 nx)) (World.setCell W p v)) := fun W p v hp h => ⟨by rw [World.cell?_setCell_far _ _ _ _ (by rw [hp]; show _ ≠ w.heap.size; omega)]; exact h.1, by rw [World.cell?_setCell_far _ _ _ _ (by rw [hp]; show _ ≠ w.heap.size; omega)]; exact h.2⟩
        have h3 := HS.out _ L0.drew
        have hA := HS.out _ LA.out
        clear hm3 hw hgB g4 gi hb R5 R6 H4 H5 L0 KC
        go_upto_region 20 with fail
        go_region_held3 (fun W => W.cell? ⟨w.heap.size, 0, none⟩ = some (.slice ad n cap) ∧ W.cell? ⟨w.heap.size, 1, none⟩ = some (.int .i64 nx)) (first | assumption | exact h3 | exact hA | exact HK.out _ _ _ rfl (HK.out _ _ _ rfl h5) | exact HK.out _ _ _ rfl h5) (
          (go_at_call 62; refine KC1.out.mono ?_; rintro e w5 ⟨gd, c5, rfl, R5, G5, C5, b5⟩; have L5 := LA.out.next b5; have h5 := HS.out _ L5; have d3 := cells_of L5.2.1 0; have d4 := cells_of L5.2.1 1; have g3 := froz_of L5.2.1))
        rw [wrapk_nx hnx hm2]
        have hg2 : gd ≠ w.heap.size + 1 := by have := szA.out; omega
        have hg3 : w.heap.size ≤ gd := by have := szA.out; omega
        have e2 := two_set L5.2.1 (.slice (some ⟨gd, 0, none⟩) K.length c5) (.int .i64 (nx + (i : Int)))
        have R6 := R5.far (gd := gd) rfl (w.heap.size + 1) hg2 (.slice (some ⟨gd, 0, none⟩) K.length c5) (.int .i64 (nx + (i : Int)))
        have b6 : Below w.heap.size w ((w5.setCell ⟨w.heap.size + 1, 0, none⟩ (.slice (some ⟨gd, 0, none⟩) K.length c5)).setCell ⟨w.heap.size + 1, 1, none⟩ (.int .i64 (nx + (i : Int)))) := (L5.2.2.1.setCell (by show _ ≤ w.heap.size + 1; omega) _).setCell (by show _ ≤ w.heap.size + 1; omega) _
        go_wp2_with fail
        have hld := run_loadVar_row _ _ _ 26 _ _ _ e2 Tryz.underlying26 rfl (by kernel_rfl)
        exact bodyPost_ret (by rw [results_cell_tmp rfl]; simp [asAddr, hld]) rfl ⟨gd, c5, rfl, R6, hg3, C5, b6⟩

end Go.Proofs.YtpgiibpalmhhlaaGreatDoor

namespace Go.Proofs.YtpgiibpalmhhlaaGreatDoor
open Go.RowKit
open Go.Lib hiding intOf
set_option linter.unusedVariables false
set_option linter.unusedSimpArgs false

set_option maxRecDepth 20000 in
set_option maxHeartbeats 4000000 in
theorem wp_ref (ad : Option Addr) (cap n m : Nat) (nx : Int) (s : List UInt8) (E : Nat → List UInt8) (X : Nat → Nat) (w : World) (hn : n ≤ 1000000) (hm2 : m ≤ 1000)
    (KU0 : Hid (∀ W, Calls Tryz.prog 60 #[.string (bs s)] W fun e w' => e = .returned (.tuple #[.string (bs (E 0)), .bool true]) ∧ w' = W))
    (KU : Hid (∀ i, i < m → ∀ W, Calls Tryz.prog 60 #[.string (bs (E i))] W fun e w' => e = .returned (.tuple #[.string (bs (E (i + 1))), .bool true]) ∧ w' = W))
    (KQ : Hid (∀ i, i < m → ∀ W, Below w.heap.size w W → Calls Tryz.prog 59 #[.agg #[.slice ad n cap, .int .i64 nx], .string (bs (E i))] W fun e w' => e = .returned (.tuple #[.int .i64 (X i : Int), .bool false]) ∧ Below W.heap.size W w'))
    (hE : Hid (∀ i, i < m → (E i).isEmpty = false)) (hD : Hid (∀ i, i < m → (E (i + 1)).length < (E i).length))
    (h0 : Hid ((E m).isEmpty = false)) (hXn : X m < n) (KE : Hid (∀ W, Below w.heap.size w W → Calls Tryz.prog 59 #[.agg #[.slice ad n cap, .int .i64 nx], .string (bs (E m))] W fun e w' => e = .returned (.tuple #[.int .i64 (X m : Int), .bool true]) ∧ Below W.heap.size W w'))
    (r : Rw) (b o : Nat) (hk : r.kind ≠ 4) (had : Hid (ad = some ⟨b, o, none⟩)) (HB : Hid (∀ W, Below w.heap.size w W → W.rangeAt b (o + X m * 13) r.cs)) :
    Calls Tryz.prog 43 #[.agg #[.slice ad n cap, .int .i64 nx], .string (bs s)] w fun e w' => e = .returned (.tuple #[.agg #[.slice none 0 0, .int .i64 0], .int .i64 130]) ∧ Below w.heap.size w w' := by
  have H0 := Two.mk0 w #[.slice ad n cap, .int .i64 nx] #[.slice none 0 0, .int .i64 0] 26 26
  have O0 : Ow ((w.alloc (.cells #[.slice ad n cap, .int .i64 nx] 26)).alloc (.cells #[.slice none 0 0, .int .i64 0] 26)) (w.heap.size + 2) (.slice none 0 0) (mds E 0) := ⟨rfl, .inl ⟨rfl, rfl⟩⟩
  go_enter Tryz.func43, Tryz.ntmps43
  go_wp2_with (go_at_call 60; refine (KU0.out _).mono ?_; rintro e w' ⟨rfl, hw⟩; rw [hw])
  generalize (w.alloc _).alloc _ = w0 at *
  go_loopw [6, 8] (fun x6 x8 wr => ∃ (i : Nat), i ≤ m ∧ x8 = .string (bs (E i)) ∧ Hid (Two w wr #[.slice ad n cap, .int .i64 nx] #[.slice none 0 0, .int .i64 0] 26 26) ∧ Hid (Ow wr (w.heap.size + 2) x6 (mds E i))) (fun _ x8 _ => strLen x8)
  case atStart => exact ⟨0, Nat.zero_le _, rfl, H0, O0⟩
  case round =>
    obtain ⟨i, hi, rfl, H1, O1⟩ := hrel
    have ht := bs_toList (E i)
    by_cases hlt : i < m
    · have hE1 := hE.out i hlt
      have KU1 : Hid (∀ W, Calls Tryz.prog 60 #[.string (bs (E i))] W fun e w' => e = .returned (.tuple #[.string (bs (E (i + 1))), .bool true]) ∧ w' = W) := KU.out i hlt
      have KQ1 : Hid (∀ W, Below w.heap.size w W → Calls Tryz.prog 59 #[.agg #[.slice ad n cap, .int .i64 nx], .string (bs (E i))] W fun e w' => e = .returned (.tuple #[.int .i64 (X i : Int), .bool false]) ∧ Below W.heap.size W w') := KQ.out i hlt
      have hml : Hid ((mds E i).length ≤ 1000000) := (by show _ ≤ _; rw [mds_length]; omega)
      have hD1 := hD.out i hlt
      have hC := cells_of H1.out.1
      go_upto_region 11 with (go_at_call 59; refine (KQ1.out _ H1.out.2.2.1).mono ?_; rintro e w2 ⟨rfl, b2⟩)
      have H2 : Hid (Two w w2 _ _ _ _) := H1.out.next b2
      have O2 : Hid (Ow w2 _ _ _) := O1.out.below b2
      clear hC b2
      have hB2 : Hid (w.heap.size + 2 ≤ w2.heap.size) := H2.out.2.2.2
      go_wp2_with (first
        | (at_builtin; refine wpList_row2 rfl _ _ rfl w2 (w.heap.size + 2) _ (mds E i) (mkR (E i)) rfl rfl O2.out hB2.out rfl hml.out ?_; intro g3 c3 w3 O3 b3)
        | (go_at_call 60; refine (KU1.out _).mono ?_; rintro e w' ⟨rfl, hw⟩; rw [hw]))
      go_roundw
      case rel =>
        refine ⟨i + 1, hlt, rfl, H2.out.nextB b3, ?_⟩
        show Ow _ _ _ _
        rw [mds_succ]
        exact O3
      case measure => show (bs (E (i + 1))).size < (bs (E i)).size; rw [bs_size, bs_size]; exact hD1
    · obtain rfl : i = m := by omega
      have h0 := h0.out
      have had := had.out
      subst had
      have KD : Hid (∀ W, Calls Tryz.prog 42 #[.agg r.cs.toArray] W fun e w' => e = .returned (.bool false) ∧ Below W.heap.size W w') := fun W => by
        have := isDir_w r W
        rwa [decide_eq_false hk] at this
      unfold Rw.cs at KD
      have h1 : (0 : Int) ≤ (X i : Int) := by omega
      have h2 : (X i : Int) < (n : Int) := by omega
      clear KU KQ hE hD KU0 hk hXn
      have hC := cells_of H1.out.1
      go_upto_region 7 with (go_at_call 59; refine (KE.out _ H1.out.2.2.1).mono ?_; rintro e w2 ⟨rfl, b2⟩)
      have H2 : Hid (Two w w2 _ _ _ _) := H1.out.next b2
      have c2 := cells_of H2.out.1
      have hR := HB.out _ H2.out.2.2.1
      have x0 : w2.cell? ⟨b, o + X i * 13, none⟩ = some (.string (bs r.p)) := hR 0 _ rfl
      have x1 : w2.cell? ⟨b, o + X i * 13 + 1, none⟩ = some (.int .i64 r.id) := hR 1 _ rfl
      have x2 : w2.cell? ⟨b, o + X i * 13 + 2, none⟩ = some (.int .i64 r.kind) := hR 2 _ rfl
      have x3 : w2.cell? ⟨b, o + X i * 13 + 3, none⟩ = some (.int .i64 r.mode) := hR 3 _ rfl
      have x4 : w2.cell? ⟨b, o + X i * 13 + 4, none⟩ = some (.int .i64 0) := hR 4 _ rfl
      have x5 : w2.cell? ⟨b, o + X i * 13 + 5, none⟩ = some (.int .i64 0) := hR 5 _ rfl
      have x6 : w2.cell? ⟨b, o + X i * 13 + 6, none⟩ = some (.int .i64 0) := hR 6 _ rfl
      have x7 : w2.cell? ⟨b, o + X i * 13 + 7, none⟩ = some (.string ⟨#[]⟩) := hR 7 _ rfl
      have x8 : w2.cell? ⟨b, o + X i * 13 + 8, none⟩ = some (.string ⟨#[]⟩) := hR 8 _ rfl
      have x9 : w2.cell? ⟨b, o + X i * 13 + 9, none⟩ = some (.string ⟨#[]⟩) := hR 9 _ rfl
      have x10 : w2.cell? ⟨b, o + X i * 13 + 10, none⟩ = some (.slice none 0 0) := hR 10 _ rfl
      have x11 : w2.cell? ⟨b, o + X i * 13 + 11, none⟩ = some (.int .i64 r.size) := hR 11 _ rfl
      have x12 : w2.cell? ⟨b, o + X i * 13 + 12, none⟩ = some (.bool r.made) := hR 12 _ rfl
      clear HB hR hC b2
      go_wp2_with (go_at_call 42; refine (KD.out _).mono ?_; rintro e w3 ⟨rfl, b3⟩; have H3 : Hid (Two w w3 _ _ _ _) := H2.out.next b3; have d3 := cells_of H3.out.2.1; have g3 := froz_of H3.out.2.1)
      have e2 := two_set H3.out.2.1 (.slice none 0 0) (.int .i64 0)
      have hld := run_loadVar_row _ _ _ 26 _ _ _ e2 Tryz.underlying26 rfl (by kernel_rfl)
      exact bodyPost_ret (by rw [results_cell_tmp rfl]; simp [asAddr, hld]) rfl ⟨rfl, (H3.out.2.2.1.setCell (by show _ ≤ w.heap.size + 1; omega) _).setCell (by show _ ≤ w.heap.size + 1; omega) _⟩

end Go.Proofs.YtpgiibpalmhhlaaGreatDoor

namespace Go.Proofs.YtpgiibpalmhhlaaGreatDoor
open Go.RowKit
open Go.Lib hiding intOf
set_option linter.unusedVariables false
set_option linter.unusedSimpArgs false

set_option maxRecDepth 20000 in
set_option maxHeartbeats 2000000 in
theorem wp_root (ad : Option Addr) (cap n : Nat) (nx : Int) (s : List UInt8) (w : World) (hs : s ≠ []) (hsl : s.length ≤ 1000000) (hu : upL s = []) :
    Calls Tryz.prog 43 #[.agg #[.slice ad n cap, .int .i64 nx], .string (bs s)] w fun e w' => e = .returned (.tuple #[.agg #[.slice ad n cap, .int .i64 nx], .int .i64 0]) ∧ Below w.heap.size w w' := by
  have KU : Hid (∀ W, Calls Tryz.prog 60 #[.string (bs s)] W fun e w' => e = .returned (.tuple #[.string (bs []), .bool true]) ∧ w' = W) := fun W => by
    have := up_some s hs (by omega) W
    rwa [hu] at this
  have H0 := Two.mk0 w #[.slice ad n cap, .int .i64 nx] #[.slice none 0 0, .int .i64 0] 26 26
  have ht := bs_toList []
  clear hs hsl hu
  go_enter Tryz.func43, Tryz.ntmps43
  go_wp2_with (go_at_call 60; refine (KU.out _).mono ?_; rintro e w' ⟨rfl, hw⟩; rw [hw])
  refine wp_loop_rounds 1 ?_
  rw [rounds_succ]
  go_wp2_with fail
  have hg := heap_alloc_new (w.alloc (.cells #[.slice ad n cap, .int .i64 nx] 26)) (.cells #[.slice ad n cap, .int .i64 nx] 26)
  rw [size_box] at hg
  have hld := run_loadVar_row _ _ _ 26 _ _ _ hg Tryz.underlying26 rfl (by kernel_rfl)
  exact bodyPost_ret (by rw [results_cell_tmp rfl]; simp [asAddr, hld]) rfl ⟨rfl, (below_box w _).alloc (by rw [size_box]; omega) _⟩

set_option maxRecDepth 20000 in
set_option maxHeartbeats 2000000 in
theorem wp_dir (ad : Option Addr) (cap : Nat) (nx : Int) (L : List Rw) (s : List UInt8) (w : World) (hL : Srt L) (hr : Rs w ad L) (hl : L.length ≤ 1000000) (hp : ∀ r ∈ L, r.p.length ≤ 4611686018427387903) (hs : s ≠ []) (hsl : s.length ≤ 1000000) (hu : upL s ≠ []) (hf : fd L (upL s) = true) (hk : (atR L (upL s)).kind = 4) :
    Calls Tryz.prog 43 #[.agg #[.slice ad L.length cap, .int .i64 nx], .string (bs s)] w fun e w' => e = .returned (.tuple #[.agg #[.slice ad L.length cap, .int .i64 nx], .int .i64 0]) ∧ Below w.heap.size w w' := by
  have hul := up_len hs
  have KU : Hid (∀ W, Calls Tryz.prog 60 #[.string (bs s)] W fun e w' => e = .returned (.tuple #[.string (bs (upL s)), .bool true]) ∧ w' = W) := fun W => up_some s hs (by omega) W
  have KQ : Hid (∀ W, Below w.heap.size w W → Calls Tryz.prog 59 #[.agg #[.slice ad L.length cap, .int .i64 nx], .string (bs (upL s))] W fun e w' => e = .returned (.tuple #[.int .i64 (ix L (upL s) : Int), .bool true]) ∧ Below W.heap.size W w') := fun W hb => by
    have := find_w ad cap nx L (upL s) W hL (hr.below hb) hl hp (by omega)
    rwa [hf] at this
  have H0 := Two.mk0 w #[.slice ad L.length cap, .int .i64 nx] #[.slice none 0 0, .int .i64 0] 26 26
  obtain ⟨r, hr1, hr2⟩ := fd_some hf
  have ha : atR L (upL s) = r := by unfold atR; rw [hf, hr1]; rfl
  rw [ha] at hk
  obtain ⟨b, o, rfl, hb1, hb2⟩ := hr.at hr1
  have HB : Hid (∀ W, Below w.heap.size w W → W.rangeAt b (o + ix L (upL s) * 13) r.cs) := fun W hW => range_below hb2 hW hb1
  have hlt : ix L (upL s) < L.length := (List.getElem?_eq_some_iff.1 hr1).1
  have KD : Hid (∀ W, Calls Tryz.prog 42 #[.agg r.cs.toArray] W fun e w' => e = .returned (.bool true) ∧ Below W.heap.size W w') := fun W => by
    have := isDir_w r W
    rwa [decide_eq_true hk] at this
  have ht := bs_toList (upL s)
  have hE : (upL s).isEmpty = false := by simpa using hu
  generalize L.length = n at *
  generalize ix L (upL s) = i at *
  generalize upL s = t at *
  have h1 : (0 : Int) ≤ (i : Int) := by omega
  have h2 : (i : Int) < (n : Int) := by omega
  unfold Rw.cs at KD
  clear hL hr hl hp hs hsl hu hf hk ha hr1 hr2 hb2 hul hlt
  go_enter Tryz.func43, Tryz.ntmps43
  go_wp2_with (go_at_call 60; refine (KU.out _).mono ?_; rintro e w' ⟨rfl, hw⟩; rw [hw])
  refine wp_loop_rounds 1 ?_
  rw [rounds_succ]
  go_upto_region 7 with (go_at_call 59; refine (KQ.out _ H0.2.2.1).mono ?_; rintro e w2 ⟨rfl, b2⟩)
  have H2 := H0.next b2
  have c2 := cells_of H2.1
  have hR := HB.out _ H2.2.2.1
  have x0 : w2.cell? ⟨b, o + i * 13, none⟩ = some (.string (bs r.p)) := hR 0 _ rfl
  have x1 : w2.cell? ⟨b, o + i * 13 + 1, none⟩ = some (.int .i64 r.id) := hR 1 _ rfl
  have x2 : w2.cell? ⟨b, o + i * 13 + 2, none⟩ = some (.int .i64 r.kind) := hR 2 _ rfl
  have x3 : w2.cell? ⟨b, o + i * 13 + 3, none⟩ = some (.int .i64 r.mode) := hR 3 _ rfl
  have x4 : w2.cell? ⟨b, o + i * 13 + 4, none⟩ = some (.int .i64 0) := hR 4 _ rfl
  have x5 : w2.cell? ⟨b, o + i * 13 + 5, none⟩ = some (.int .i64 0) := hR 5 _ rfl
  have x6 : w2.cell? ⟨b, o + i * 13 + 6, none⟩ = some (.int .i64 0) := hR 6 _ rfl
  have x7 : w2.cell? ⟨b, o + i * 13 + 7, none⟩ = some (.string ⟨#[]⟩) := hR 7 _ rfl
  have x8 : w2.cell? ⟨b, o + i * 13 + 8, none⟩ = some (.string ⟨#[]⟩) := hR 8 _ rfl
  have x9 : w2.cell? ⟨b, o + i * 13 + 9, none⟩ = some (.string ⟨#[]⟩) := hR 9 _ rfl
  have x10 : w2.cell? ⟨b, o + i * 13 + 10, none⟩ = some (.slice none 0 0) := hR 10 _ rfl
  have x11 : w2.cell? ⟨b, o + i * 13 + 11, none⟩ = some (.int .i64 r.size) := hR 11 _ rfl
  have x12 : w2.cell? ⟨b, o + i * 13 + 12, none⟩ = some (.bool r.made) := hR 12 _ rfl
  clear HB hR
  go_wp2_with (go_at_call 42; refine (KD.out _).mono ?_; rintro e w3 ⟨rfl, b3⟩; have H3 := H2.next b3; have c3 := cells_of H3.1; have c4 := cells_of H3.2.1; have f4 := froz_of H3.2.1)
  have hg := two_set H3.2.1 (.slice (some ⟨b, o, none⟩) n cap) (.int .i64 nx)
  have hld := run_loadVar_row _ _ _ 26 _ _ _ hg Tryz.underlying26 rfl (by kernel_rfl)
  exact bodyPost_ret (by rw [results_cell_tmp rfl]; simp [asAddr, hld]) rfl ⟨rfl, (H3.2.2.1.setCell (by show _ ≤ w.heap.size + 1; omega) _).setCell (by show _ ≤ w.heap.size + 1; omega) _⟩

end Go.Proofs.YtpgiibpalmhhlaaGreatDoor

namespace Go.Proofs.YtpgiibpalmhhlaaGreatDoor
open Go.RowKit
open Go.Lib hiding intOf
set_option linter.unusedVariables false
set_option linter.unusedSimpArgs false

/-- a clean path that isn't the root -/
def Cp (s : List UInt8) : Prop := ∃ ps, ps ≠ [] ∧ (∀ p ∈ ps, Good p) ∧ s = jn ps

theorem Cp.ne {s : List UInt8} (h : Cp s) : s ≠ [] := by
  obtain ⟨ps, h1, h2, rfl⟩ := h
  exact fun e => h1 ((jn_nil_iff ps h2).1 e)

theorem chain_jn (ps : List (List UInt8)) (h : ∀ p ∈ ps, Good p) (x : List UInt8) : x ∈ chain (jn ps) ↔ ∃ a, a ≠ [] ∧ a <+: ps ∧ x = jn a := by
  generalize hn : ps.length = n
  induction n generalizing ps with
  | zero =>
    obtain rfl := List.length_eq_zero_iff.1 hn
    rw [jn_nil, chain_nil]
    constructor
    · intro q; cases q
    · rintro ⟨a, h1, h2, _⟩
      exact absurd (List.prefix_nil.1 h2) h1
  | succ n ih =>
    have hne : ps ≠ [] := fun e => by rw [e] at hn; simp at hn
    have hj : jn ps ≠ [] := fun e => hne ((jn_nil_iff ps h).1 e)
    rw [chain_cons hj, up_jn ps h hne, List.mem_cons, ih ps.dropLast (fun p hp => h p (List.dropLast_subset ps hp)) (by rw [List.length_dropLast]; omega)]
    constructor
    · rintro (rfl | ⟨a, h1, h2, rfl⟩)
      · exact ⟨ps, hne, List.prefix_rfl, rfl⟩
      · exact ⟨a, h1, h2.trans (List.dropLast_prefix ps), rfl⟩
    · rintro ⟨a, h1, h2, rfl⟩
      by_cases e : a = ps
      · exact .inl (by rw [e])
      · refine .inr ⟨a, h1, ?_, rfl⟩
        obtain ⟨t, rfl⟩ := h2
        have ht : t ≠ [] := fun q => e (by rw [q, List.append_nil])
        rw [List.dropLast_append_of_ne_nil ht]
        exact List.prefix_append a _

theorem Cp.chain {s x : List UInt8} (h : Cp s) (hx : x ∈ chain s) : Cp x := by
  obtain ⟨ps, h1, h2, rfl⟩ := h
  obtain ⟨a, k1, k2, rfl⟩ := (chain_jn ps h2 x).1 hx
  exact ⟨a, k1, fun p hp => h2 p (k2.subset hp), rfl⟩

theorem Cp.up {s : List UInt8} (h : Cp s) : upL s = [] ∨ Cp (upL s) := by
  obtain ⟨ps, h1, h2, rfl⟩ := h
  rw [up_jn ps h2 h1]
  by_cases e : ps.dropLast = []
  · left; rw [e]; rfl
  · exact .inr ⟨_, e, fun p hp => h2 p (List.dropLast_subset ps hp), rfl⟩

theorem chain_trans {a b c : List UInt8} (h : Cp c) (h1 : a ∈ chain b) (h2 : b ∈ chain c) : a ∈ chain c := by
  obtain ⟨ps, k1, k2, rfl⟩ := h
  obtain ⟨m, q1, q2, rfl⟩ := (chain_jn ps k2 b).1 h2
  obtain ⟨n, r1, r2, rfl⟩ := (chain_jn m (fun p hp => k2 p (q2.subset hp)) a).1 h1
  exact (chain_jn ps k2 _).2 ⟨n, r1, r2.trans q2, rfl⟩

theorem bnd_und : ∀ d s : List UInt8, bnd d s = (Lib.hasPrefix s d && ((s.drop d.length).isEmpty || decide ((s.drop d.length).head? = some 47)))
  | [], [] => by simp [bnd, Lib.hasPrefix]
  | [], c :: s => by
    show (c == 47) = _
    by_cases e : c = 47
    · subst e; rfl
    · have e1 : (c == 47) = false := by simpa using e
      rw [e1]
      simp [Lib.hasPrefix, e]
  | a :: d, [] => by simp [bnd, Lib.hasPrefix]
  | a :: d, b :: s => by
    rw [bnd, bnd_und d s]
    show (a == b && (d.isPrefixOf s && _)) = ((a == b && d.isPrefixOf s) && _)
    rw [Bool.and_assoc]
    rfl

theorem chain_bnd {s x : List UInt8} (hs : Cp s) (hx : Cp x) : x ∈ chain s ↔ bnd x s = true := by
  have hxn := hx.ne
  obtain ⟨ps, h1, h2, rfl⟩ := hs
  obtain ⟨m, k1, k2, rfl⟩ := hx
  have hu := und_jn m ps k2 h2
  have e : und (jn m) (jn ps) = bnd (jn m) (jn ps) := by
    unfold und
    rw [bnd_und]
    have : (jn m).isEmpty = false := by simpa using hxn
    rw [this, Bool.false_or]
  rw [← e, hu, chain_jn ps h2]
  constructor
  · rintro ⟨a, q1, q2, q3⟩
    rw [jn_inj m a k2 (fun p hp => h2 p (q2.subset hp)) q3]
    exact decide_eq_true q2
  · intro q
    exact ⟨m, k1, of_decide_eq_true q, rfl⟩

theorem bnd_lt : ∀ d s : List UInt8, bnd d s = true → d ≠ s → cmpL d s < 0
  | [], [], _, h => absurd rfl h
  | [], c :: s, _, _ => by simp [cmpL]
  | a :: d, [], h, _ => by simp [bnd] at h
  | a :: d, b :: s, h, hne => by
    simp [bnd] at h
    obtain ⟨rfl, h⟩ := h
    rw [cmpL, if_pos rfl]
    exact bnd_lt d s h fun e => hne (by rw [e])

theorem chain_lt {s x : List UInt8} (hs : Cp s) (hx : x ∈ chain s) (hne : x ≠ s) : cmpL x s < 0 :=
  bnd_lt x s ((chain_bnd hs (hs.chain hx)).1 hx) hne

theorem chain_mid {t r x : List UInt8} (hr : Cp r) (hx : Cp x) (h : t ∈ chain x) (h1 : cmpL t r < 0) (h2 : cmpL r x < 0) : t ∈ chain r :=
  (chain_bnd hr (hx.chain h)).2 (bnd_mid t r x ((chain_bnd hx (hx.chain h)).1 h) h1 h2)

/-- the chain of a path in reverse order is in order -/
theorem chain_pair (s : List UInt8) (hs : Cp s ∨ s = []) : (chain s).Pairwise fun a b => b ∈ chain a ∧ cmpL b a < 0 := by
  generalize hn : s.length = n
  induction n using Nat.strongRecOn generalizing s with
  | _ n ih =>
    rcases hs with hs | rfl
    · have hne := hs.ne
      rw [chain_cons hne]
      refine List.pairwise_cons.2 ⟨fun b hb => ?_, ih _ (by rw [← hn]; exact up_len hne) (upL s) hs.up.symm rfl⟩
      have hb2 : b ∈ chain s := by rw [chain_cons hne]; exact List.mem_cons_of_mem _ hb
      refine ⟨hb2, chain_lt hs hb2 fun e => ?_⟩
      have := (chain_le (upL s) b hb).1
      have := up_len hne
      rw [e] at *
      omega
    · rw [chain_nil]; exact List.Pairwise.nil

end Go.Proofs.YtpgiibpalmhhlaaGreatDoor

namespace Go.Proofs.YtpgiibpalmhhlaaGreatDoor
open Go.RowKit
open Go.Lib hiding intOf
set_option linter.unusedVariables false
set_option linter.unusedSimpArgs false

theorem Srt.uniq {L : List Rw} (h : Srt L) {r q : Rw} (hr : r ∈ L) (hq : q ∈ L) (e : r.p = q.p) : r = q := by
  induction L with
  | nil => cases hr
  | cons a L ih =>
    obtain ⟨h1, h2⟩ := List.pairwise_cons.1 h
    rcases List.mem_cons.1 hr with e1 | hr1
    · rcases List.mem_cons.1 hq with e2 | hq1
      · rw [e1, e2]
      · have := h1 q hq1; rw [← e1, e] at this; exact absurd this (cmpL_irrefl _)
    · rcases List.mem_cons.1 hq with e2 | hq1
      · have := h1 r hr1; rw [← e2, e] at this; exact absurd this (cmpL_irrefl _)
      · exact ih h2 hr1 hq1

theorem fd_of {L : List Rw} (h : Srt L) {r : Rw} (hr : r ∈ L) : fd L r.p = true := by
  cases hf : fd L r.p with
  | true => rfl
  | false => exact absurd rfl (not_there h hf r hr)

theorem fd_mem {L : List Rw} {s : List UInt8} (hf : fd L s = true) : ∃ r ∈ L, r.p = s := by
  obtain ⟨r, h1, h2⟩ := fd_some hf
  exact ⟨r, List.mem_of_getElem? h1, h2⟩

theorem atR_mem {L : List Rw} {s : List UInt8} (hf : fd L s = true) : atR L s ∈ L ∧ (atR L s).p = s := by
  obtain ⟨r, h1, h2⟩ := fd_some hf
  have : atR L s = r := by unfold atR; rw [hf, h1]; rfl
  rw [this]
  exact ⟨List.mem_of_getElem? h1, h2⟩

theorem atR_of {L : List Rw} (h : Srt L) {r : Rw} (hr : r ∈ L) : atR L r.p = r := by
  have hm := atR_mem (fd_of h hr)
  exact h.uniq hm.1 hr hm.2

/-- a tree that is one -/
structure Sd (L : List Rw) (nx : Int) : Prop where
  srt : Srt L
  cp : ∀ r ∈ L, Cp r.p
  up : ∀ r ∈ L, upL r.p = [] ∨ ∃ q ∈ L, q.p = upL r.p ∧ q.kind = 4
  id : ∀ r ∈ L, 0 ≤ r.id ∧ r.id < nx
  one : ∀ r ∈ L, ∀ q ∈ L, r.id = q.id → r = q ∨ (r.kind = 1 ∧ q.kind = 1 ∧ r.size = q.size)
  ok : ∀ r ∈ L, r.p.length ≤ 1000 ∧ 0 ≤ r.size ∧ r.size ≤ 1048576
  nn : 0 ≤ nx

theorem Sd.nil : Sd [] 0 := ⟨List.Pairwise.nil, (fun _ h => nomatch h), (fun _ h => nomatch h), (fun _ h => nomatch h), (fun _ h => nomatch h), (fun _ h => nomatch h), by omega⟩

/-- above what stands all stand -/
theorem Sd.above {L : List Rw} {nx : Int} (h : Sd L nx) {r : Rw} (hr : r ∈ L) {t : List UInt8} (ht : t ∈ chain r.p) : ∃ q ∈ L, q.p = t := by
  generalize hn : r.p.length = n
  induction n using Nat.strongRecOn generalizing r with
  | _ n ih =>
    have hne := (h.cp r hr).ne
    rw [chain_cons hne] at ht
    rcases List.mem_cons.1 ht with rfl | ht
    · exact ⟨r, hr, rfl⟩
    · rcases h.up r hr with e | ⟨q, hq, e, _⟩
      · rw [e, chain_nil] at ht; cases ht
      · have := up_len hne
        exact ih q.p.length (by rw [e]; omega) hq (by rw [e]; exact ht) rfl

def mdL (L : List Rw) (s : List UInt8) : List (List UInt8) := (chain (upL s)).takeWhile fun x => !fd L x
def stL (L : List Rw) (s : List UInt8) : List (List UInt8) := (chain (upL s)).dropWhile fun x => !fd L x
def cls (L : List Rw) (s : List UInt8) : Bool := match stL L s with | [] => false | y :: _ => decide ((atR L y).kind ≠ 4)
def mkAll (nx : Int) (M : List (List UInt8)) : List Rw := M.reverse.mapIdx fun i x => { mkR x with id := nx + (i : Int) }
def wpR (L : List Rw) (nx : Int) (s : List UInt8) : List Rw := match (mdL L s).getLast? with
  | none => L
  | some t => L.take (ix L t) ++ mkAll nx (mdL L s) ++ L.drop (ix L t)

theorem md_st (L : List Rw) (s : List UInt8) : chain (upL s) = mdL L s ++ stL L s := List.takeWhile_append_dropWhile.symm

theorem tw_mem {α : Type} (p : α → Bool) : ∀ (l : List α) (x : α), x ∈ l.takeWhile p → p x = true
  | [], x, h => by cases h
  | a :: l, x, h => by
    rw [List.takeWhile_cons] at h
    split at h
    · next e =>
      rcases List.mem_cons.1 h with rfl | h
      · exact e
      · exact tw_mem p l x h
    · cases h

theorem dw_head {α : Type} (p : α → Bool) : ∀ (l : List α) (y : α) (r : List α), l.dropWhile p = y :: r → p y = false
  | [], y, r, h => by cases h
  | a :: l, y, r, h => by
    rw [List.dropWhile_cons] at h
    split at h
    · exact dw_head p l y r h
    · next e => injection h with h1 _; subst h1; simpa using e

theorem md_fd {L : List Rw} {s x : List UInt8} (h : x ∈ mdL L s) : fd L x = false := by
  have := tw_mem _ _ _ h
  simpa using this

theorem st_fd {L : List Rw} {s y : List UInt8} {r : List (List UInt8)} (h : stL L s = y :: r) : fd L y = true := by
  have := dw_head _ _ _ _ h
  simpa using this

theorem chain_top (u : List UInt8) : u = [] ∨ (chain u).head? = some u := by
  by_cases h : u = []
  · exact .inl h
  · right; rw [chain_cons h]; rfl

theorem chain_up : ∀ (A B : List (List UInt8)) (u : List UInt8), chain u = A ++ B → ∀ x ∈ A, upL x = [] ∨ upL x ∈ A ∨ B.head? = some (upL x)
  | [], B, u, h, x, hx => by cases hx
  | a :: A, B, u, h, x, hx => by
    have hu : u ≠ [] := fun e => by rw [e, chain_nil] at h; cases h
    rw [chain_cons hu] at h
    injection h with h1 h2
    subst h1
    rcases List.mem_cons.1 hx with rfl | hx
    · rcases chain_top (upL x) with e | e
      · exact .inl e
      · right
        rw [h2] at e
        cases A with
        | nil => exact .inr e
        | cons b A => left; simp at e; rw [e]; simp
    · rcases chain_up A B (upL u) h2 x hx with e | e | e
      · exact .inl e
      · exact .inr (.inl (List.mem_cons_of_mem _ e))
      · exact .inr (.inr e)

theorem mkAll_map (nx : Int) (M : List (List UInt8)) : (mkAll nx M).map Rw.p = M.reverse := by
  unfold mkAll
  apply List.ext_getElem?
  intro i
  rw [List.getElem?_map, List.getElem?_mapIdx]
  cases M.reverse[i]? <;> rfl

theorem mkAll_length (nx : Int) (M : List (List UInt8)) : (mkAll nx M).length = M.length := by
  unfold mkAll; rw [List.length_mapIdx, List.length_reverse]

theorem mkAll_get (nx : Int) (M : List (List UInt8)) (q : Rw) : q ∈ mkAll nx M ↔ ∃ (i : Nat) (x : List UInt8), M.reverse[i]? = some x ∧ q = { mkR x with id := nx + (i : Int) } := by
  rw [List.mem_iff_getElem?]
  constructor
  · rintro ⟨i, hi⟩
    unfold mkAll at hi
    rw [List.getElem?_mapIdx] at hi
    cases hx : M.reverse[i]? with
    | none => rw [hx] at hi; cases hi
    | some x => rw [hx] at hi; exact ⟨i, x, hx, (Option.some.inj hi).symm⟩
  · rintro ⟨i, x, hx, rfl⟩
    refine ⟨i, ?_⟩
    unfold mkAll
    rw [List.getElem?_mapIdx, hx]
    rfl

theorem mem_ins {L N : List Rw} {i : Nat} {q : Rw} : q ∈ L.take i ++ N ++ L.drop i ↔ q ∈ L ∨ q ∈ N := by
  constructor
  · intro h
    rcases List.mem_append.1 h with h | h
    · rcases List.mem_append.1 h with h | h
      · exact .inl (List.mem_of_mem_take h)
      · exact .inr h
    · exact .inl (List.mem_of_mem_drop h)
  · rintro (h | h)
    · rw [← List.take_append_drop i L] at h
      rcases List.mem_append.1 h with h | h
      · exact List.mem_append.2 (.inl (List.mem_append.2 (.inl h)))
      · exact List.mem_append.2 (.inr h)
    · exact List.mem_append.2 (.inl (List.mem_append.2 (.inr h)))

theorem Srt.ins {L : List Rw} (h : Srt L) (t : List UInt8) (N : List Rw) (hN : Srt N) (h1 : ∀ x ∈ N, t = x.p ∨ cmpL t x.p < 0) (h2 : ∀ x ∈ N, ∀ r ∈ L, ¬ cmpL r.p t < 0 → cmpL x.p r.p < 0) : Srt (L.take (ix L t) ++ N ++ L.drop (ix L t)) := by
  unfold Srt
  rw [List.append_assoc]
  refine List.pairwise_append.2 ⟨h.sublist (List.take_sublist _ _), List.pairwise_append.2 ⟨hN, h.sublist (List.drop_sublist _ _), ?_⟩, ?_⟩
  · intro a ha b hb
    exact h2 a ha b (List.mem_of_mem_drop hb) (drop_ge h (Nat.le_refl _) hb)
  · intro a ha b hb
    have ht := take_lt h ha
    rcases List.mem_append.1 hb with hb | hb
    · rcases h1 b hb with e | e
      · rw [← e]; exact ht
      · exact cmpL_lt_trans _ _ _ ht e
    · have hp := List.pairwise_append.1 (by rw [List.take_append_drop]; exact h : (L.take (ix L t) ++ L.drop (ix L t)).Pairwise fun a b => cmpL a.p b.p < 0)
      exact hp.2.2 a ha b hb

theorem wpR_nil {L : List Rw} {nx : Int} {s : List UInt8} (h : mdL L s = []) : wpR L nx s = L := by unfold wpR; rw [h]; rfl

theorem wpR_mem {L : List Rw} {nx : Int} {s : List UInt8} {q : Rw} : q ∈ wpR L nx s ↔ q ∈ L ∨ q ∈ mkAll nx (mdL L s) := by
  unfold wpR
  cases h : (mdL L s).getLast? with
  | none =>
    rw [List.getLast?_eq_none_iff.1 h]
    simp [mkAll]
  | some t => exact mem_ins

theorem wpR_length {L : List Rw} {nx : Int} {s : List UInt8} : (wpR L nx s).length = L.length + (mdL L s).length := by
  unfold wpR
  cases h : (mdL L s).getLast? with
  | none =>
    rw [List.getLast?_eq_none_iff.1 h]
    simp
  | some t =>
    have := ix_le L t
    rw [List.length_append, List.length_append, List.length_take, List.length_drop, mkAll_length]
    omega

theorem Cp.upc {s : List UInt8} (h : Cp s) : Cp (upL s) ∨ upL s = [] := h.up.symm

theorem md_chain {L : List Rw} {s x : List UInt8} (h : x ∈ mdL L s) : x ∈ chain (upL s) := by
  rw [md_st L s]; exact List.mem_append.2 (.inl h)

theorem md_cp {L : List Rw} {s x : List UInt8} (hs : Cp s) (h : x ∈ mdL L s) : Cp x := by
  have hx := md_chain h
  rcases hs.up with e | e
  · rw [e, chain_nil] at hx; cases hx
  · exact e.chain hx

theorem md_pair (L : List Rw) {s : List UInt8} (hs : Cp s) : (mdL L s).Pairwise fun a b => b ∈ chain a ∧ cmpL b a < 0 :=
  (chain_pair (upL s) hs.upc).sublist (List.takeWhile_sublist _)

theorem wpR_srt {L : List Rw} {nx : Int} {s : List UInt8} (h : Sd L nx) (hs : Cp s) : Srt (wpR L nx s) := by
  unfold wpR
  cases hg : (mdL L s).getLast? with
  | none => exact h.srt
  | some t =>
    have ht : t ∈ mdL L s := List.mem_of_getLast? hg
    have hp := md_pair L hs
    have hlast : ∀ x ∈ mdL L s, t = x ∨ (t ∈ chain x ∧ cmpL t x < 0) := by
      intro x hx
      obtain ⟨A, hA⟩ : ∃ A, mdL L s = A ++ [t] := List.getLast?_eq_some_iff.1 hg
      rw [hA] at hx hp
      rcases List.mem_append.1 hx with hx | hx
      · exact .inr ((List.pairwise_append.1 hp).2.2 x hx t (by simp))
      · exact .inl (List.mem_singleton.1 hx).symm
    have hm : ∀ q ∈ mkAll nx (mdL L s), q.p ∈ mdL L s := by
      intro q hq
      obtain ⟨i, x, hx, rfl⟩ := (mkAll_get _ _ _).1 hq
      exact List.mem_reverse.1 (List.mem_of_getElem? hx)
    refine h.srt.ins t _ ?_ ?_ ?_
    · have : ((mkAll nx (mdL L s)).map Rw.p).Pairwise fun a b => cmpL a b < 0 := by
        rw [mkAll_map]
        exact List.pairwise_reverse.2 (hp.imp fun q => q.2)
      exact List.pairwise_map.1 this
    · intro q hq
      rcases hlast _ (hm q hq) with e | e
      · exact .inl e
      · exact .inr e.2
    · intro q hq r hr hge
      have hx := hm q hq
      by_cases hlt : cmpL q.p r.p < 0
      · exact hlt
      · exfalso
        have hne : q.p ≠ r.p := fun e => not_there h.srt (md_fd hx) r hr e.symm
        have h2 := cmpL_gt hlt hne
        have hnt : r.p ≠ t := not_there h.srt (md_fd ht) r hr
        have h1 := cmpL_gt hge hnt
        rcases hlast _ hx with e | e
        · rw [← e] at h2
          exact hge h2
        · have := chain_mid (h.cp r hr) (md_cp hs hx) e.1 h1 h2
          obtain ⟨z, hz, hzp⟩ := h.above hr this
          exact not_there h.srt (md_fd ht) z hz hzp

/-- the directories that are made make a tree that has the directory of the path -/
theorem Sd.wp {L : List Rw} {nx : Int} {s : List UInt8} (h : Sd L nx) (hs : Cp s) (hl : s.length ≤ 1000) (hc : cls L s = false) :
    Sd (wpR L nx s) (nx + ((mdL L s).length : Int)) ∧ (upL s = [] ∨ ∃ q ∈ wpR L nx s, q.p = upL s ∧ q.kind = 4) := by
  have hnn := h.nn
  have hdir : ∀ x, x ∈ mdL L s ∨ (stL L s).head? = some x → ∃ q ∈ wpR L nx s, q.p = x ∧ q.kind = 4 := by
    rintro x (hx | hx)
    · obtain ⟨i, hi⟩ := List.mem_iff_getElem?.1 (List.mem_reverse.2 hx)
      exact ⟨_, wpR_mem.2 (.inr ((mkAll_get _ _ _).2 ⟨i, x, hi, rfl⟩)), rfl, rfl⟩
    · cases e : stL L s with
      | nil => rw [e] at hx; cases hx
      | cons y r =>
        rw [e] at hx
        obtain rfl : y = x := by simpa using hx
        have hm := atR_mem (st_fd e)
        have hk : (atR L y).kind = 4 := by
          unfold cls at hc
          rw [e] at hc
          simpa using hc
        exact ⟨_, wpR_mem.2 (.inl hm.1), hm.2, hk⟩
  refine ⟨⟨wpR_srt h hs, ?_, ?_, ?_, ?_, ?_, by omega⟩, ?_⟩
  · intro r hr
    rcases wpR_mem.1 hr with hr | hr
    · exact h.cp r hr
    · obtain ⟨i, x, hx, rfl⟩ := (mkAll_get _ _ _).1 hr
      exact md_cp hs (List.mem_reverse.1 (List.mem_of_getElem? hx))
  · intro r hr
    rcases wpR_mem.1 hr with hr | hr
    · rcases h.up r hr with e | ⟨q, hq, e⟩
      · exact .inl e
      · exact .inr ⟨q, wpR_mem.2 (.inl hq), e⟩
    · obtain ⟨i, x, hx, rfl⟩ := (mkAll_get _ _ _).1 hr
      have hxm : x ∈ mdL L s := List.mem_reverse.1 (List.mem_of_getElem? hx)
      rcases chain_up _ _ _ (md_st L s) x hxm with e | e | e
      · exact .inl e
      · exact .inr (hdir _ (.inl e))
      · exact .inr (hdir _ (.inr e))
  · intro r hr
    rcases wpR_mem.1 hr with hr | hr
    · have := h.id r hr; omega
    · obtain ⟨i, x, hx, rfl⟩ := (mkAll_get _ _ _).1 hr
      have hi := (List.getElem?_eq_some_iff.1 hx).1
      rw [List.length_reverse] at hi
      show 0 ≤ nx + (i : Int) ∧ nx + (i : Int) < _
      omega
  · intro r hr q hq e
    rcases wpR_mem.1 hr with hr | hr
    · rcases wpR_mem.1 hq with hq | hq
      · exact h.one r hr q hq e
      · obtain ⟨i, x, hx, rfl⟩ := (mkAll_get _ _ _).1 hq
        have := h.id r hr
        have e2 : r.id = nx + (i : Int) := e
        omega
    · obtain ⟨i, x, hx, rfl⟩ := (mkAll_get _ _ _).1 hr
      rcases wpR_mem.1 hq with hq | hq
      · have := h.id q hq
        have e2 : nx + (i : Int) = q.id := e
        omega
      · obtain ⟨j, y, hy, rfl⟩ := (mkAll_get _ _ _).1 hq
        have e2 : nx + (i : Int) = nx + (j : Int) := e
        obtain rfl : i = j := by omega
        rw [hx] at hy
        obtain rfl := Option.some.inj hy
        exact .inl rfl
  · intro r hr
    rcases wpR_mem.1 hr with hr | hr
    · exact h.ok r hr
    · obtain ⟨i, x, hx, rfl⟩ := (mkAll_get _ _ _).1 hr
      have hxm : x ∈ mdL L s := List.mem_reverse.1 (List.mem_of_getElem? hx)
      have := (chain_le _ x (md_chain hxm)).1
      have := up_len hs.ne
      exact ⟨by show x.length ≤ 1000; omega, by show (0 : Int) ≤ 0; omega, by show (0 : Int) ≤ 1048576; omega⟩
  · rcases chain_top (upL s) with e | e
    · exact .inl e
    · right
      rw [md_st L s] at e
      cases hM : mdL L s with
      | nil => rw [hM] at e; exact hdir _ (.inr (by simpa using e))
      | cons a A => rw [hM] at e; exact hdir _ (.inl (by rw [hM]; simp at e; rw [e]; simp))

/-- a row that is laid in a tree -/
theorem Sd.put {L : List Rw} {nx ny : Int} (h : Sd L nx) (r : Rw) (hny : nx ≤ ny) (hs : Cp r.p) (hup : upL r.p = [] ∨ ∃ q ∈ L, q.p = upL r.p ∧ q.kind = 4) (hid : 0 ≤ r.id ∧ r.id < ny) (hok : r.p.length ≤ 1000 ∧ 0 ≤ r.size ∧ r.size ≤ 1048576)
    (hdir : ∀ q ∈ L, q.p = r.p → q.kind = 4 → r.kind = 4) (hone : ∀ q ∈ L, q.p ≠ r.p → q.id = r.id → r.kind = 1 ∧ q.kind = 1 ∧ r.size = q.size) : Sd (putL L r) ny := by
  have hnn := h.nn
  refine ⟨h.srt.put r, ?_, ?_, ?_, ?_, ?_, by omega⟩
  · intro q hq
    rcases (mem_put h.srt r q).1 hq with rfl | ⟨hq, _⟩
    · exact hs
    · exact h.cp q hq
  · have key : ∀ x, (∃ q ∈ L, q.p = x ∧ q.kind = 4) → ∃ q ∈ putL L r, q.p = x ∧ q.kind = 4 := by
      rintro x ⟨q, hq, e, k⟩
      by_cases c : q.p = r.p
      · exact ⟨r, (mem_put h.srt r r).2 (.inl rfl), by rw [← e, c], hdir q hq c k⟩
      · exact ⟨q, (mem_put h.srt r q).2 (.inr ⟨hq, c⟩), e, k⟩
    intro q hq
    rcases (mem_put h.srt r q).1 hq with rfl | ⟨hq, _⟩
    · rcases hup with e | e
      · exact .inl e
      · exact .inr (key _ e)
    · rcases h.up q hq with e | e
      · exact .inl e
      · exact .inr (key _ e)
  · intro q hq
    rcases (mem_put h.srt r q).1 hq with rfl | ⟨hq, _⟩
    · exact hid
    · have := h.id q hq; omega
  · intro a ha b hb e
    rcases (mem_put h.srt r a).1 ha with e1 | ⟨ha1, hna⟩
    · rcases (mem_put h.srt r b).1 hb with e2 | ⟨hb1, hnb⟩
      · exact .inl (by rw [e1, e2])
      · rw [e1] at e ⊢
        exact .inr (hone b hb1 hnb e.symm)
    · rcases (mem_put h.srt r b).1 hb with e2 | ⟨hb1, hnb⟩
      · rw [e2] at e ⊢
        have := hone a ha1 hna e
        exact .inr ⟨this.2.1, this.1, this.2.2.symm⟩
      · exact h.one a ha1 b hb1 e
  · intro q hq
    rcases (mem_put h.srt r q).1 hq with rfl | ⟨hq, _⟩
    · exact hok
    · exact h.ok q hq

theorem put_length (L : List Rw) (r : Rw) : (putL L r).length ≤ L.length + 1 := by
  unfold putL
  simp only [List.length_append, List.length_take, List.length_drop, List.length_cons, List.length_nil]
  omega

end Go.Proofs.YtpgiibpalmhhlaaGreatDoor

namespace Go.Proofs.YtpgiibpalmhhlaaGreatDoor
open Go.RowKit
open Go.Lib hiding intOf
set_option linter.unusedVariables false
set_option linter.unusedSimpArgs false

/-- Add: the rows, the next number, the error -/
def addP (L : List Rw) (nx : Int) (s : List UInt8) (kd md sz : Int) (mk : Bool) : List Rw × Int × Int :=
  if s = [] then (L, nx, 100)
  else if fd L s then
    if decide ((atR L s).kind = 4) ≠ decide (kd = 4) then (L, nx, 130)
    else if kd = 4 then (putL L ⟨s, (atR L s).id, kd, md, sz, mk⟩, nx, 0)
    else (putL L ⟨s, nx, kd, md, sz, mk⟩, nx + 1, 0)
  else if cls L s then (L, nx, 130)
  else (putL (wpR L nx s) ⟨s, nx + ((mdL L s).length : Int), kd, md, sz, mk⟩, nx + ((mdL L s).length : Int) + 1, 0)

/-- Link: the rows, the next number, the error -/
def linkP (L : List Rw) (nx : Int) (s tt : List UInt8) : List Rw × Int × Int :=
  if s = [] then (L, nx, 100)
  else if fd L tt = false then (L, nx, 4)
  else if (atR L tt).kind ≠ 1 then (L, nx, 130)
  else if (atR L s).kind = 4 then (L, nx, 130)
  else if cls L s then (L, nx, 130)
  else (putL (wpR L nx s) { atR L tt with p := s }, nx + ((mdL L s).length : Int), 0)

/-- in a tree a thing's directory is there -/
theorem Sd.there {L : List Rw} {nx : Int} {s : List UInt8} (h : Sd L nx) (hf : fd L s = true) : mdL L s = [] ∧ cls L s = false := by
  obtain ⟨hm, hp⟩ := atR_mem hf
  rcases h.up _ hm with e | ⟨q, hq, e, k⟩
  · rw [hp] at e
    unfold mdL cls stL
    rw [e, chain_nil]
    exact ⟨rfl, rfl⟩
  · rw [hp] at e
    have hne : upL s ≠ [] := by rw [← e]; exact (h.cp q hq).ne
    have hf2 : fd L (upL s) = true := by rw [← e]; exact fd_of h.srt hq
    have hat : atR L (upL s) = q := by rw [← e]; exact atR_of h.srt hq
    unfold mdL cls stL
    rw [chain_cons hne, List.takeWhile_cons, List.dropWhile_cons, hf2]
    refine ⟨rfl, ?_⟩
    show decide ((atR L (upL s)).kind ≠ 4) = false
    rw [hat, k]
    rfl

theorem Sd.upOf {L : List Rw} {nx : Int} {s : List UInt8} (h : Sd L nx) (hf : fd L s = true) : upL s = [] ∨ ∃ q ∈ L, q.p = upL s ∧ q.kind = 4 := by
  obtain ⟨hm, hp⟩ := atR_mem hf
  have := h.up _ hm
  rwa [hp] at this

theorem md_length (L : List Rw) {s : List UInt8} : (mdL L s).length ≤ s.length := by
  have h1 : (mdL L s).length ≤ (chain (upL s)).length := (List.takeWhile_sublist _).length_le
  have h2 := chain_len (upL s)
  by_cases e : s = []
  · subst e
    have : upL [] = [] := rfl
    rw [this, chain_nil] at h1
    simpa using h1
  · have := up_len e
    omega

theorem Sd.add {L : List Rw} {nx : Int} {s : List UInt8} {kd md sz : Int} {mk : Bool} (h : Sd L nx) (hs : s = [] ∨ Cp s) (hl : s.length ≤ 1000) (hz : 0 ≤ sz ∧ sz ≤ 1048576) :
    Sd (addP L nx s kd md sz mk).1 (addP L nx s kd md sz mk).2.1 := by
  have hnn := h.nn
  unfold addP
  by_cases e0 : s = []
  · rw [if_pos e0]; exact h
  · have hc : Cp s := hs.resolve_left e0
    rw [if_neg e0]
    by_cases hf : fd L s = true
    · rw [if_pos hf]
      obtain ⟨hm, hp⟩ := atR_mem hf
      by_cases c1 : decide ((atR L s).kind = 4) ≠ decide (kd = 4)
      · rw [if_pos c1]; exact h
      · rw [if_neg c1]
        have c2 : (atR L s).kind = 4 ↔ kd = 4 := by
          have : decide ((atR L s).kind = 4) = decide (kd = 4) := Classical.not_not.1 c1
          simpa using this
        by_cases c3 : kd = 4
        · rw [if_pos c3]
          have hid := h.id _ hm
          refine h.put _ (Int.le_refl _) hc (h.upOf hf) hid ⟨hl, hz⟩ (fun _ _ _ _ => c3) ?_
          intro q hq hne e
          rcases h.one q hq _ hm e with e2 | ⟨_, e2, _⟩
          · exact absurd (by rw [e2, hp]) hne
          · rw [c2.2 c3] at e2; omega
        · rw [if_neg c3]
          refine h.put _ (by show nx ≤ nx + 1; omega) hc (h.upOf hf) ⟨hnn, by show nx < nx + 1; omega⟩ ⟨hl, hz⟩ ?_ ?_
          · intro q hq e k
            have : q = atR L s := h.srt.uniq hq hm (by rw [hp]; exact e)
            rw [this] at k
            exact absurd (c2.1 k) c3
          · intro q hq _ e
            have := h.id q hq
            have e2 : q.id = nx := e
            omega
    · have hf : fd L s = false := by simpa using hf
      rw [hf, if_neg (by simp)]
      by_cases hcl : cls L s = true
      · rw [if_pos hcl]; exact h
      · have hcl : cls L s = false := by simpa using hcl
        rw [hcl, if_neg (by simp)]
        obtain ⟨hw, hu⟩ := h.wp hc hl hcl
        have hn2 := hw.nn
        refine hw.put _ (by show nx + ((mdL L s).length : Int) ≤ nx + ((mdL L s).length : Int) + 1; omega) hc hu ⟨hn2, by show nx + ((mdL L s).length : Int) < nx + ((mdL L s).length : Int) + 1; omega⟩ ⟨hl, hz⟩ ?_ ?_
        · intro q hq e _
          exfalso
          have e : q.p = s := e
          rcases wpR_mem.1 hq with hq | hq
          · exact not_there h.srt hf q hq e
          · obtain ⟨i, x, hx, rfl⟩ := (mkAll_get _ _ _).1 hq
            have hxm : x ∈ mdL L s := List.mem_reverse.1 (List.mem_of_getElem? hx)
            have := (chain_le _ x (md_chain hxm)).1
            have := up_len e0
            have e3 : x.length = s.length := congrArg List.length e
            omega
        · intro q hq _ e
          have := hw.id q hq
          have e2 : q.id = nx + ((mdL L s).length : Int) := e
          omega

theorem mem_link {L : List Rw} {nx : Int} {s : List UInt8} {r : Rw} (h : Sd L nx) (hr : r ∈ L) : r ∈ wpR L nx s := wpR_mem.2 (.inl hr)

theorem Sd.link {L : List Rw} {nx : Int} {s tt : List UInt8} (h : Sd L nx) (hs : s = [] ∨ Cp s) (hl : s.length ≤ 1000) :
    Sd (linkP L nx s tt).1 (linkP L nx s tt).2.1 := by
  have hnn := h.nn
  unfold linkP
  by_cases e0 : s = []
  · rw [if_pos e0]; exact h
  · have hc : Cp s := hs.resolve_left e0
    rw [if_neg e0]
    by_cases hf : fd L tt = false
    · rw [if_pos hf]; exact h
    · rw [if_neg hf]
      have hf : fd L tt = true := by simpa using hf
      obtain ⟨hm, hp⟩ := atR_mem hf
      by_cases c1 : (atR L tt).kind ≠ 1
      · rw [if_pos c1]; exact h
      · rw [if_neg c1]
        have c1 : (atR L tt).kind = 1 := Classical.not_not.1 c1
        by_cases c2 : (atR L s).kind = 4
        · rw [if_pos c2]; exact h
        · rw [if_neg c2]
          by_cases hcl : cls L s = true
          · rw [if_pos hcl]; exact h
          · have hcl : cls L s = false := by simpa using hcl
            rw [hcl, if_neg (by simp)]
            obtain ⟨hw, hu⟩ := h.wp hc hl hcl
            have hm2 : atR L tt ∈ wpR L nx s := mem_link h hm
            have hid := hw.id _ hm2
            have hok := hw.ok _ hm2
            refine hw.put _ (Int.le_refl _) hc hu hid ⟨hl, hok.2⟩ ?_ ?_
            · intro q hq e k
              exfalso
              have e : q.p = s := e
              rcases wpR_mem.1 hq with hq | hq
              · have : atR L s = q := by rw [← e]; exact atR_of h.srt hq
                exact c2 (by rw [this]; exact k)
              · obtain ⟨i, x, hx, rfl⟩ := (mkAll_get _ _ _).1 hq
                have hxm : x ∈ mdL L s := List.mem_reverse.1 (List.mem_of_getElem? hx)
                have := (chain_le _ x (md_chain hxm)).1
                have := up_len e0
                have e3 : x.length = s.length := congrArg List.length e
                omega
            · intro q hq hne e
              rcases hw.one q hq _ hm2 e with e2 | ⟨k1, k2, k3⟩
              · exact ⟨c1, by rw [e2]; exact c1, by rw [e2]⟩
              · exact ⟨k2, k1, k3.symm⟩

theorem add_length {L : List Rw} {nx : Int} {s : List UInt8} {kd md sz : Int} {mk : Bool} : (addP L nx s kd md sz mk).1.length ≤ L.length + s.length + 1 ∧ (addP L nx s kd md sz mk).2.1 ≤ nx + (s.length : Int) + 1 := by
  have h1 := md_length L (s := s)
  unfold addP
  split
  · exact ⟨by show L.length ≤ _; omega, by show nx ≤ _; omega⟩
  · split
    · split
      · exact ⟨by show L.length ≤ _; omega, by show nx ≤ _; omega⟩
      · split
        · have := put_length L ⟨s, (atR L s).id, kd, md, sz, mk⟩
          exact ⟨by show (putL L _).length ≤ _; omega, by show nx ≤ _; omega⟩
        · have := put_length L ⟨s, nx, kd, md, sz, mk⟩
          exact ⟨by show (putL L _).length ≤ _; omega, by show nx + 1 ≤ _; omega⟩
    · split
      · exact ⟨by show L.length ≤ _; omega, by show nx ≤ _; omega⟩
      · have := put_length (wpR L nx s) ⟨s, nx + ((mdL L s).length : Int), kd, md, sz, mk⟩
        rw [wpR_length] at this
        exact ⟨by show (putL _ _).length ≤ _; omega, by show nx + ((mdL L s).length : Int) + 1 ≤ _; omega⟩

theorem link_length {L : List Rw} {nx : Int} {s tt : List UInt8} : (linkP L nx s tt).1.length ≤ L.length + s.length + 1 ∧ (linkP L nx s tt).2.1 ≤ nx + (s.length : Int) + 1 := by
  have h1 := md_length L (s := s)
  unfold linkP
  repeat' split
  all_goals first
    | exact ⟨by show L.length ≤ _; omega, by show nx ≤ _; omega⟩
    | (have := put_length (wpR L nx s) { atR L tt with p := s }
       rw [wpR_length] at this
       exact ⟨by show (putL _ _).length ≤ _; omega, by show nx + ((mdL L s).length : Int) ≤ _; omega⟩)

end Go.Proofs.YtpgiibpalmhhlaaGreatDoor

