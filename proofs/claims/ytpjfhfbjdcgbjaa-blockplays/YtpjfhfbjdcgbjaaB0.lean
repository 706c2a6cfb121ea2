/-
  BlockPlays: a map from numbers to blocks (64 bytes, how often held), as its law keeps it.
-/
import Derived.Test.YtpjfhfbjdcgbjaaFull0
namespace Go.Proofs.Ytpjfhfbjdcgbjaa
open Go.RowKit
set_option linter.unusedVariables false
set_option linter.unusedSimpArgs false

/-- how a row of numbers is read -/
def rdAll : List Value → Option (List (DataW Unit))
  | [] => some []
  | .int k z :: r => (rdAll r).map (DataW.lit (.int k z) :: ·)
  | _ => none

theorem rdAll_inj : ∀ (a b : List Value) (l : List (DataW Unit)), rdAll a = some l → rdAll b = some l → a = b
  | [], [], _, _, _ => rfl
  | [], v :: b, l, h1, h2 => by
    simp [rdAll] at h1
    subst h1
    cases v <;> simp [rdAll] at h2
  | u :: a, [], l, h1, h2 => by
    simp [rdAll] at h2
    subst h2
    cases u <;> simp [rdAll] at h1
  | u :: a, v :: b, l, h1, h2 => by
    cases u <;> simp [rdAll] at h1
    cases v <;> simp [rdAll] at h2
    obtain ⟨l1, e1, rfl⟩ := h1
    obtain ⟨l2, e2, e3⟩ := h2
    obtain ⟨⟨rfl, rfl⟩, rfl⟩ := e3
    rw [rdAll_inj a b _ e1 e2]

/-- how an element of the map is read -/
def R65 : Value → Option (DataW Unit × List MemPlace)
  | .agg a => (rdAll a.toList).map fun l => (.agg l, [])
  | _ => none

def litsOf (zs : List Int) : List (DataW Unit) := zs.map fun z => .lit (.int .u8 z)
def dataOf (s : Slot) : DataW Unit := .agg (litsOf s.bytes ++ [.lit (.int .i64 (s.holds : Int))])

theorem rdAll_bytes (k : Nat) : ∀ (zs : List Int), rdAll (cellsOf zs ++ [.int .i64 (k : Int)]) = some (litsOf zs ++ [.lit (.int .i64 (k : Int))])
  | [] => by simp [rdAll, cellsOf, litsOf]
  | z :: r => by
    have := rdAll_bytes k r
    simp only [cellsOf, litsOf, List.map_cons, List.cons_append, rdAll] at this ⊢
    rw [this]
    rfl

theorem R65_slot (s : Slot) : R65 (.agg (slotCells s).toArray) = some (dataOf s, []) := by
  simp only [R65, slotCells]
  rw [rdAll_bytes]
  rfl

theorem R65_inv {v : Value} {ps : List MemPlace} {s : Slot} (h : R65 v = some (dataOf s, ps)) : v = .agg (slotCells s).toArray := by
  cases v <;> simp [R65] at h
  rename_i a
  have h2 : rdAll (slotCells s) = some (litsOf s.bytes ++ [.lit (.int .i64 (s.holds : Int))]) := rdAll_bytes _ _
  obtain ⟨l, e1, e2, e3⟩ := h
  unfold dataOf at e2
  injection e2 with e2
  subst e2
  rw [← rdAll_inj _ _ _ e1 h2]

theorem key_of3 (x : Int) (h : (Lit.int .i64 x).wf = true) : keyOf Try.prog 3 (.int .i64 x) = some (.int .i64 x) := by
  simp [keyOf, Try.underlying3, mapKey, h]

theorem wf_int (x : Int) (h : -9223372036854775808 ≤ x ∧ x ≤ 9223372036854775807) : (Lit.int .i64 x).wf = true := by
  have e1 : IntKind.i64.min = -9223372036854775808 := by decide
  have e2 : IntKind.i64.max = 9223372036854775807 := by decide
  simp [Lit.wf, e1, e2]
  omega

theorem make28 (w : World) : (Instr.makeMap 28 none).run Try.prog w = .ok (.map (some w.heap.size)) (w.alloc (.map #[] 0)) := rfl

theorem zero35 (w : World) : (zeroValue 35).run Try.prog w = .ok (.agg (slotCells Slot.none).toArray) w := by
  have b : (Try.prog.info? 35).bind (fun i => i.zero) = some (.agg (slotCells Slot.none).toArray) := by kernel_rfl
  cases hq : Try.prog.info? 35 with
  | none => rw [hq] at b; simp at b
  | some i =>
    rw [hq] at b; simp at b
    simp [zeroValue, typeInfo, hq, b]

/-- the map of the blocks that are held; c of them -/
structure Mp (w : World) (gm m : Nat) (ss : List Slot) (c : Nat) : Prop where
  own : ∃ D : DataW Unit, w.ownsMap Try.prog 3 R65 gm m D ∧ Maps.size D = c ∧ (∀ (i : Nat) (s : Slot), ss[i]? = some s → s.holds ≠ 0 → ∀ z, D.atKey (.int .i64 (i : Int)) z = dataOf s) ∧ ∀ x : Int, Gone ss x → Maps.has D (.int .i64 x) = false

section
variable {w w' : World} {gm m c : Nat} {ss : List Slot}

theorem Mp.made (w : World) (h : ∀ (i : Nat) (s : Slot), ss[i]? = some s → s.holds = 0) : Mp (w.alloc (.map #[] 0)) w.heap.size 0 ss 0 :=
  ⟨.map [], World.ownsMap_made w _ _ _, rfl, fun i s hi hh => absurd (h i s hi) hh, fun x _ => by simp [Maps.has]⟩

theorem Mp.moved (h : Mp w gm m ss c) (e : w'.heap[gm]? = w.heap[gm]?) : Mp w' gm m ss c := by
  obtain ⟨D, h1, h2⟩ := h.own
  exact ⟨D, owns_moved h1 e, h2⟩
theorem Mp.lt (h : Mp w gm m ss c) : gm < w.heap.size := by
  obtain ⟨D, h1, _⟩ := h.own
  exact h1.lt
theorem Mp.alloc (h : Mp w gm m ss c) (o : Obj) : Mp (w.alloc o) gm m ss c := h.moved (Below.heap_alloc _ _ _ h.lt)

theorem Mp.look_yes (h : Mp w gm m ss c) (i : Nat) (s : Slot) (hi : ss[i]? = some s) (hh : s.holds ≠ 0) (hb : (i : Int) ≤ 9223372036854775807) :
    (Instr.lookup 28 (.map (some gm)) (.int .i64 (i : Int)) true).run Try.prog w = .ok (.tuple #[.agg (slotCells s).toArray, .bool true]) w := by
  obtain ⟨D, h1, _, h2, _⟩ := h.own
  obtain ⟨v, ps, r, hv⟩ := h1.look_ok key3 Try.underlying28 (zero35 w) (R65_slot _) (key_of3 i (wf_int i (by omega)))
  rw [h2 i s hi hh] at hv
  rw [r, R65_inv hv, Maps.has_true_of_atKey (h2 i s hi hh)]

theorem Mp.look_no (h : Mp w gm m ss c) (x : Int) (hi : Gone ss x) (hb : -9223372036854775808 ≤ x ∧ x ≤ 9223372036854775807) :
    (Instr.lookup 28 (.map (some gm)) (.int .i64 x) true).run Try.prog w = .ok (.tuple #[.agg (slotCells Slot.none).toArray, .bool false]) w := by
  obtain ⟨D, h1, _, _, h3⟩ := h.own
  obtain ⟨v, ps, r, hv⟩ := h1.look_ok key3 Try.underlying28 (zero35 w) (R65_slot _) (key_of3 x (wf_int x hb))
  rw [Maps.atKey_of_not_has (h3 x hi)] at hv
  rw [r, R65_inv hv, h3 x hi]

theorem Mp.len (h : Mp w gm m ss c) (ty : TypeId) : (Builtin.len_ #[28] ty #[.map (some gm)]).run Try.prog w = .ok (.int .i64 (c : Int)) w := by
  obtain ⟨D, h1, rfl, _⟩ := h.own
  exact h1.len Try.underlying28 ty

theorem get_set_ne {ss : List Slot} {i j : Nat} {t s : Slot} (hne : j ≠ i) (h : (ss.set i t)[j]? = some s) : ss[j]? = some s := by
  rwa [List.getElem?_set_ne (fun e => hne e.symm)] at h
theorem gone_set_ne {ss : List Slot} {i : Nat} {t : Slot} {x : Int} (hne : x ≠ (i : Int)) (h : Gone (ss.set i t) x) : Gone ss x := by
  intro j s e hj
  refine h j s e ?_
  rw [List.getElem?_set_ne]
  · exact hj
  · rintro rfl; exact hne e
theorem lit_ne {x y : Int} (h : x ≠ y) : (Lit.int .i64 x) ≠ .int .i64 y := fun e => h (by injection e)

/-- a block is put: it was there, or not -/
theorem Mp.put (h : Mp w gm m ss c) (i : Nat) (t : Slot) (hi : i < ss.length) (ht : t.holds ≠ 0) (hb : (i : Int) ≤ 9223372036854775807) (hm : m < maxLen) (c' : Nat)
    (hc : (∃ s, ss[i]? = some s ∧ s.holds ≠ 0 ∧ c' = c) ∨ (Gone ss i ∧ c' = c + 1)) :
    ∃ w', (Instr.mapUpdate 28 (.map (some gm)) (.int .i64 (i : Int)) (.agg (slotCells t).toArray)).run Try.prog w = .ok () w' ∧ Mp w' gm (m + 1) (ss.set i t) c' ∧ w.mapTurned w' gm := by
  obtain ⟨D, h1, rfl, h2, h3⟩ := h.own
  obtain ⟨w', r1, r2, r3⟩ := h1.store key3 Try.underlying28 hm (key_of3 i (wf_int i (by omega))) (R65_slot t)
  have hk : WideAt.IsKeyLit (.int .i64 (i : Int)) := trivial
  refine ⟨w', r1, ⟨_, r2, ?_, ?_, ?_⟩, r3⟩
  · rw [Maps.size_put (h1.tidy key3)]
    rcases hc with ⟨s, e1, e2, rfl⟩ | ⟨e1, rfl⟩
    · rw [if_pos (Maps.has_true_of_atKey (h2 i s e1 e2))]
    · rw [h3 _ e1]; rfl
  · intro j s hj hs z
    by_cases e : j = i
    · subst e
      rw [List.getElem?_set_self hi] at hj
      cases hj
      exact Maps.atKey_put_same h1.isMap hk _ _
    · rw [Maps.atKey_put_other (lit_ne (by omega))]
      exact h2 j s (get_set_ne e hj) hs z
  · intro x hx
    by_cases e : x = (i : Int)
    · exact absurd (hx i t e (List.getElem?_set_self hi)) ht
    · rw [Maps.has_put_other (lit_ne e)]
      exact h3 x (gone_set_ne e hx)

/-- a block is put, held no more, and struck -/
theorem Mp.last (h : Mp w gm m ss c) (i : Nat) (s t : Slot) (hi : ss[i]? = some s) (hs : s.holds ≠ 0) (hb : (i : Int) ≤ 9223372036854775807) (hm : m < maxLen) :
    ∃ w1, (Instr.mapUpdate 28 (.map (some gm)) (.int .i64 (i : Int)) (.agg (slotCells t).toArray)).run Try.prog w = .ok () w1 ∧ w.mapTurned w1 gm ∧
    ∃ w2, (Builtin.delete_ #[28, 3] 0 #[.map (some gm), .int .i64 (i : Int)]).run Try.prog w1 = .ok (.tuple #[]) w2 ∧ Mp w2 gm (m + 1) (ss.set i Slot.none) (c - 1) ∧ w.mapTurned w2 gm := by
  obtain ⟨D, h1, rfl, h2, h3⟩ := h.own
  obtain ⟨w1, r1, r2, r3⟩ := h1.store key3 Try.underlying28 hm (key_of3 i (wf_int i (by omega))) (R65_slot t)
  obtain ⟨w2, q1, q2, q3⟩ := r2.drop key3 Try.underlying28 (key_of3 i (wf_int i (by omega))) 0
  have hk : WideAt.IsKeyLit (.int .i64 (i : Int)) := trivial
  have hlt := lt_of_some hi
  refine ⟨w1, r1, r3, w2, q1, ⟨_, q2, ?_, ?_, ?_⟩, r3.trans q3⟩
  · have e1 := Maps.size_del (k := .int .i64 (i : Int)) (r2.tidy key3)
    rw [Maps.has_put_same h1.isMap hk, Maps.size_put (h1.tidy key3), if_pos rfl, if_pos (Maps.has_true_of_atKey (h2 i s hi hs))] at e1
    omega
  · intro j s' hj hs' z
    by_cases e : j = i
    · subst e
      rw [List.getElem?_set_self hlt] at hj
      cases hj
      exact absurd rfl hs'
    · rw [Maps.atKey_del_other (lit_ne (by omega)), Maps.atKey_put_other (lit_ne (by omega))]
      exact h2 j s' (get_set_ne e hj) hs' z
  · intro x hx
    by_cases e : x = (i : Int)
    · subst e; exact Maps.has_del_same
    · rw [Maps.has_del_other (lit_ne e), Maps.has_put_other (lit_ne e)]
      exact h3 x (gone_set_ne e hx)

end
end Go.Proofs.Ytpjfhfbjdcgbjaa
