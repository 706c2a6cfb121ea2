/-
  BlockPlays: the row of numbers that were ever given; the state behind so many steps.
-/
import Derived.Test.YtpjfhfbjdcgbjaaB0
import Derived.OwnWalk
import Derived.Laws.AppendOwnNone
namespace Go.Proofs.Ytpjfhfbjdcgbjaa
open Go.RowKit
set_option linter.unusedVariables false
set_option linter.unusedSimpArgs false

def numCells (ids : List Int) : List Value := ids.map (Value.int .i64)
theorem numCells_length (ids : List Int) : (numCells ids).length = ids.length := by simp [numCells]

theorem i3 : ∃ i, Try.prog.info? 3 = some i ∧ i.size = 1 ∧ i.bytes = 8 ∧ i.zero = some (.int .i64 0) := by
  have a : (Try.prog.info? 3).map (fun i => (i.size, i.bytes)) = some (1, 8) := by kernel_rfl
  have b : (Try.prog.info? 3).bind (fun i => i.zero) = some (.int .i64 0) := by kernel_rfl
  cases h : Try.prog.info? 3 with
  | none => rw [h] at a; simp at a
  | some i => rw [h] at a b; simp at a b; exact ⟨i, rfl, a.1, a.2, b⟩

/-- a list of numbers of one's own: nil, or a row from its head on -/
def Own (w : World) (B : Nat) (v : Value) (ids : List Int) : Prop := w.ownsRow B 3 1 v ids.length (numCells ids)

theorem own_nil (w : World) (B : Nat) : Own w B (.slice none 0 0) [] := ⟨rfl, .inl ⟨rfl, rfl⟩⟩
theorem Own.moved {W W' : World} {B : Nat} {v : Value} {ids : List Int} (h : Own W B v ids) (hb : ∀ g, v.ownBlock = some g → B ≤ g → g < W.heap.size → W'.heap[g]? = W.heap[g]?) : Own W' B v ids := by
  refine ⟨h.1, ?_⟩
  rcases h.2 with h2 | ⟨g, cap, cur, e1, e2, e3, e4⟩
  · exact .inl h2
  · exact .inr ⟨g, cap, cur, e1, e2, (hb g (by rw [e1]; rfl) e2 (lt_of_heap e3)).trans e3, e4⟩
theorem Own.grow {W W' : World} {B : Nat} {v : Value} {ids : List Int} (h : Own W B v ids) (b : Below W.heap.size W W') : Own W' B v ids := h.moved fun g _ _ hl => b.block g hl
theorem Own.keeps {W W' : World} {B p S F : Nat} {v : Value} {ids : List Int} (h : Own W B v ids) (hk : Keeps p S F W W') (h1 : p < B) (h2 : S < B) (h3 : F < B) : Own W' B v ids :=
  h.moved fun g _ hg hl => hk.block g hl (by omega) (by omega) (by omega)
theorem Own.len {w : World} {B n c : Nat} {a : Option Addr} {ids : List Int} (h : Own w B (.slice a n c) ids) : n = ids.length ∧ n ≤ c ∧ c ≤ 9223372036854775807 := by
  rcases h.2 with ⟨e, h0⟩ | ⟨g, cap, cur, e, _, _, h1, h2, _⟩
  · simp at e; rw [e.2.1, e.2.2, h0]; exact ⟨rfl, by omega, by omega⟩
  · simp at e; rw [e.2.1, e.2.2]; unfold maxLen at h2; exact ⟨rfl, h1, by omega⟩
theorem Own.get {w : World} {B n c : Nat} {a : Option Addr} {ids : List Int} (h : Own w B (.slice a n c) ids) {i : Nat} {x : Int} (hi : ids[i]? = some x) :
    ∃ g, a = some ⟨g, 0, none⟩ ∧ w.cell? ⟨g, i, none⟩ = some (.int .i64 x) := by
  have hlt := (List.getElem?_eq_some_iff.1 hi).1
  rcases h.2 with ⟨e, h0⟩ | ⟨g, cap, cur, e, hB, hg, h1, h2, h3, h4⟩
  · omega
  · simp at e
    obtain ⟨rfl, rfl, rfl⟩ := e
    have hs : (numCells ids)[i]? = some (.int .i64 x) := by unfold numCells; rw [List.getElem?_map, hi]; rfl
    rw [← h4, List.getElem?_take] at hs
    split at hs
    · refine ⟨g, rfl, ?_⟩
      simp only [World.cell?, hg]; simpa using hs
    · cases hs

/-- a number is put to the numbers -/
theorem wpList_push {W : World} {ops : Array Oper} {rest : List Oper} {o : Oper} {a : Act} {Q : Exit → Act → World → Prop} (hgd : o.guard = none) (s x : Operand)
    (ho : o.op = .call { callee := .builtin .append, args := #[s, x], argTypes := #[29, 29] })
    (B n c : Nat) (av : Option Addr) (ks : List Int) (k : Int) (hs : a.eval s = .slice av n c) (hown : Own W B (.slice av n c) ks) (hB : B ≤ W.heap.size) (hx : a.eval x = .slice (some ⟨W.heap.size, 0, none⟩) 1 1) (hl : n ≤ 2000)
    (h : ∀ g' c' w', Own w' B (.slice (some ⟨g', 0, none⟩) (n + 1) c') (ks ++ [k]) → Below B W w' → wpList Try.prog ops Q rest (a.put o.dst (.slice (some ⟨g', 0, none⟩) (n + 1) c')) w') : wpList Try.prog ops Q (o :: rest) a (W.alloc (.cells #[.int .i64 k] 3)) := by
  obtain ⟨rfl, _, _⟩ := hown.len
  obtain ⟨i0, hi0, hi1, hi2, hi3⟩ := i3
  have bA : Below W.heap.size W (W.alloc (.cells #[.int .i64 k] 3)) := (Below.refl _ W).alloc (Nat.le_refl _) _
  have hown2 : (W.alloc (.cells #[.int .i64 k] 3)).ownsRow B 3 1 (.slice av ks.length c) ks.length (numCells ks) := hown.grow bA
  refine wpList_append_own _ hgd s x 29 ho B 3 i0 (.int .i64 0) 1 8 Try.underlying29 hi0 hi3 hi1 hi2 rfl (by decide) _ _ _ hs hown2 ⟨W.heap.size, 0, none⟩ 1 1 [.int .i64 k] hx rfl ?_ ?_ ?_ ?_ ?_ ?_
  · intro q u hu
    cases q with
    | zero => simp at hu; subst hu; simp [Addr.add, World.cell?_alloc_new]
    | succ q => simp at hu
  · intro u hu; simp at hu; subst hu; rfl
  · unfold maxLen; omega
  · omega
  · simp; omega
  · intro v' w3 hown' hgrow hh
    have b3 : Below B W w3 := (bA.mono hB).grown hgrow (by simp; omega) (fun k hk => (hown2.lt k hk).1)
    obtain ⟨g', c', rfl⟩ : ∃ g' c', v' = .slice (some ⟨g', 0, none⟩) (ks.length + 1) c' := by
      rcases hown'.2 with ⟨e1, e2⟩ | ⟨g', c', cur, e1, _⟩
      · omega
      · exact ⟨g', c', e1⟩
    refine h g' c' w3 ?_ b3
    unfold Own
    rw [List.length_append]
    simpa [numCells] using hown'

/-- the state behind j steps -/
structure Bs (w wr : World) (p S F gm B n j : Nat) (v : Value) (ks : List Int) (ss : List Slot) (fr : List Nat) : Prop where
  below : Below w.heap.size w wr
  ar : Ar wr p S F ss fr
  mp : ∃ m, m ≤ j ∧ Mp wr gm m ss (n - fr.length)
  ev : Own wr B v ks
  ids : ∀ x ∈ ks, ∃ i : Nat, x = (i : Int) ∧ i < n
  num : ks.length ≤ j
  held : ∀ s ∈ ss, s.holds ≤ j + 1
  len : ss.length = n
  B0 : w.heap.size ≤ B
  Bw : B ≤ wr.heap.size
  hp : w.heap.size ≤ p ∧ p < B
  hS : w.heap.size ≤ S ∧ S < B
  hF : w.heap.size ≤ F ∧ F < B
  hg : w.heap.size ≤ gm ∧ gm < B

theorem Mp.apart {w : World} {gm m c p S F : Nat} {ss st : List Slot} {fr : List Nat} (h : Mp w gm m ss c) (a : Ar w p S F st fr) : gm ≠ p ∧ gm ≠ S ∧ gm ≠ F := by
  obtain ⟨D, ⟨es, cl, hb, _⟩, _⟩ := h.own
  obtain ⟨j, hj, _⟩ := a.list
  refine ⟨?_, ?_, ?_⟩
  · rintro rfl; rw [a.head] at hb; cases hb
  · rintro rfl; rw [a.row] at hb; cases hb
  · rintro rfl; rw [hj] at hb; cases hb

theorem turned_other {w w' : World} {gm k : Nat} (h : w.mapTurned w' gm) (hk : k ≠ gm) (hl : k < w.heap.size) : w'.heap[k]? = w.heap[k]? := h.grown.block k hl (fun e => hk (by injection e))
theorem turned_below {w w' : World} {gm B : Nat} (h : w.mapTurned w' gm) (hB : B ≤ gm) (hw : B ≤ w.heap.size) : Below B w w' :=
  ⟨h.grown.os, h.grown.tape, h.grown.output, h.grown.size, fun k hk => turned_other h (by omega) (by omega)⟩

section
variable {w wr : World} {p S F gm B n j : Nat} {v : Value} {ks : List Int} {ss : List Slot} {fr : List Nat}

theorem Bs.more (h : Bs w wr p S F gm B n j v ks ss fr) : Bs w wr p S F gm B n (j + 1) v ks ss fr :=
  { h with mp := let ⟨m, e, q⟩ := h.mp; ⟨m, by omega, q⟩, num := by have := h.num; omega, held := fun s hs => by have := h.held s hs; omega }

theorem Bs.grow {W : World} (h : Bs w wr p S F gm B n j v ks ss fr) (b : Below wr.heap.size wr W) : Bs w W p S F gm B n j v ks ss fr :=
  { h with
    below := h.below.trans (b.mono h.below.size)
    ar := h.ar.moved (b.block p h.ar.lt.1) (b.block S h.ar.lt.2.1) (b.block F h.ar.lt.2.2)
    mp := let ⟨m, e, q⟩ := h.mp; ⟨m, e, q.moved (b.block gm q.lt)⟩
    ev := h.ev.grow b
    Bw := Nat.le_trans h.Bw b.size }

/-- the store has turned, the map with it: a world W1 behind the store's work (and boxes of one's own), W2 behind the map's -/
theorem Bs.turn {W W1 W2 : World} {ss' : List Slot} {fr' : List Nat} {m : Nat} (h : Bs w wr p S F gm B n j v ks ss fr) (K : Keeps p S F wr W) (A : Ar W p S F ss' fr') (b : Below B W W1) (E : Own W1 B v ks) (T : W1.mapTurned W2 gm) (hm : m ≤ j + 1) (M : Mp W2 gm m ss' (n - fr'.length)) (hl : ss'.length = n) (hh : ∀ s ∈ ss', s.holds ≤ j + 2) : Bs w W2 p S F gm B n (j + 1) v ks ss' fr' := by
  obtain ⟨m0, _, M0⟩ := h.mp
  obtain ⟨g1, g2, g3⟩ := M0.apart h.ar
  obtain ⟨l1, l2, l3⟩ := A.lt
  have e1 := b.size
  have e2 := h.Bw
  have e3 := K.size
  have e4 := h.hg
  have e5 := h.B0
  have bW : Below w.heap.size w W := h.below.trans (K.below h.below.size h.hp.1 h.hS.1 h.hF.1)
  have A1 := A.moved (b.block p h.hp.2) (b.block S h.hS.2) (b.block F h.hF.2)
  exact
    { below := (bW.trans (b.mono (by omega))).trans (turned_below T (by omega) (by omega))
      ar := A1.moved (turned_other T (fun e => g1 e.symm) (by omega)) (turned_other T (fun e => g2 e.symm) (by omega)) (turned_other T (fun e => g3 e.symm) (by omega))
      mp := ⟨m, hm, M⟩
      ev := E.moved fun g _ h1 h2 => turned_other T (by omega) h2
      ids := h.ids
      num := by have := h.num; omega
      held := hh
      len := hl
      B0 := h.B0
      Bw := by have := T.grown.size; omega
      hp := h.hp
      hS := h.hS
      hF := h.hF
      hg := h.hg }

/-- the box of a block's copy: one number in it is another one -/
theorem Bs.box {W : World} {ss' : List Slot} {fr' : List Nat} {g12 : Nat} {s : Slot} (h : Bs w wr p S F gm B n j v ks ss fr) (K : Keeps p S F wr W) (hb : wr.heap[g12]? = some (.cells (slotCells s).toArray 35 (0, 0))) (hB : B ≤ g12) (hs : s.bytes.length = 64) (z : Nat) :
    W.cell? ⟨g12, 64, none⟩ = some (.int .i64 (s.holds : Int)) ∧ W.frozen? ⟨g12, 64, none⟩ = false ∧
    (W.setCell ⟨g12, 64, none⟩ (.int .i64 (z : Int))).heap[g12]? = some (.cells (slotCells ⟨s.bytes, z⟩).toArray 35 (0, 0)) ∧ Below B W (W.setCell ⟨g12, 64, none⟩ (.int .i64 (z : Int))) ∧ Own (W.setCell ⟨g12, 64, none⟩ (.int .i64 (z : Int))) B v ks ∧
    ∀ m c st, Mp wr gm m st c → Mp (W.setCell ⟨g12, 64, none⟩ (.int .i64 (z : Int))) gm m st c := by
  have e1 := h.hp
  have e2 := h.hS
  have e3 := h.hF
  have e4 := h.hg
  have hb6 : W.heap[g12]? = some (.cells (slotCells s).toArray 35 (0, 0)) := (K.block g12 (lt_of_heap hb) (by omega) (by omega) (by omega)).trans hb
  have c64 : (slotCells s)[64]? = some (.int .i64 (s.holds : Int)) := by simp [slotCells, cellsOf, hs]
  refine ⟨?_, by simp [World.frozen?, hb6], ?_, ⟨rfl, rfl, rfl, by simp [World.setCell], fun k hk => Below.heap_setCell _ _ _ _ (by show k ≠ g12; omega)⟩, ?_, ?_⟩
  · simp only [World.cell?, hb6]
    simpa using c64
  · rw [setCell_eq_setRow _ _ _ _ _ _ _ hb6, setRow_heap _ _ _ _ _ _ hb6, ← slot_holds s z hs, splice_set _ _ _ (by rw [slotCells_length s hs]; omega)]
    simp
  · refine (h.ev.keeps K h.hp.2 h.hS.2 h.hF.2).moved fun g e h1 h2 => Below.heap_setCell _ _ _ _ ?_
    show g ≠ g12
    rintro rfl
    rcases (h.ev.keeps K h.hp.2 h.hS.2 h.hF.2).2 with ⟨e5, _⟩ | ⟨g', cap, cur, e5, _, e6, _⟩
    · rw [e5] at e; simp [Value.ownBlock] at e
    · rw [e5] at e
      simp [Value.ownBlock] at e
      subst e
      rw [hb6] at e6
      injection e6 with e6
      injection e6 with _ e6
      cases e6
  · intro m c st M
    obtain ⟨g1, g2, g3⟩ := M.apart h.ar
    exact (M.moved (K.block gm M.lt g1 g2 g3)).moved (Below.heap_setCell _ _ _ _ (by show gm ≠ g12; omega))

/-- one number more was given -/
theorem Bs.push {W : World} {v' : Value} {i : Nat} (h : Bs w wr p S F gm B n (j + 1) v ks ss fr) (b : Below B wr W) (ev : Own W B v' (ks ++ [(i : Int)])) (hi : i < n) (hk : ks.length ≤ j) : Bs w W p S F gm B n (j + 1) v' (ks ++ [(i : Int)]) ss fr :=
  { h with
    below := h.below.trans (b.mono h.B0)
    ar := h.ar.moved (b.block p h.hp.2) (b.block S h.hS.2) (b.block F h.hF.2)
    mp := let ⟨m, e, q⟩ := h.mp; ⟨m, e, q.moved (b.block gm h.hg.2)⟩
    ev := ev
    ids := by
      intro x hx
      rcases List.mem_append.1 hx with hx | hx
      · exact h.ids x hx
      · simp at hx; exact ⟨i, hx, hi⟩
    num := by simp; omega
    Bw := Nat.le_trans h.Bw b.size }

end

def headReg : Code → Option Nat
  | .region n _ _ => some n
  | .seq a _ => headReg a
  | .block _ c => headReg c
  | .scope c => headReg c
  | _ => none
/-- the code that begins with a region, wherever it stands -/
def findAt (n : Nat) : Code → Option Code
  | .seq a b => if headReg a = some n then some (.seq a b) else (findAt n a).or (findAt n b)
  | .cond _ a b => (findAt n a).or (findAt n b)
  | .block _ c => findAt n c
  | .scope c => findAt n c
  | .loop c => findAt n c
  | _ => none
theorem arm0_is : (Try.f3.body.bind (findAt 23)).isSome = true := by kernel_rfl
theorem arm1_is : (Try.f3.body.bind (findAt 33)).isSome = true := by kernel_rfl
theorem arm2_is : (Try.f3.body.bind (findAt 41)).isSome = true := by kernel_rfl
theorem arm3_is : (Try.f3.body.bind (findAt 48)).isSome = true := by kernel_rfl
theorem arm4_is : (Try.f3.body.bind (findAt 57)).isSome = true := by kernel_rfl

theorem size35 (s : Slot) (h : s.bytes.length = 64) : (Try.prog.info? 35).map (·.size) = some (slotCells s).toArray.size := by
  rw [List.size_toArray, slotCells_length s h]
  kernel_rfl

theorem one_slot (s : Slot) : (slotCells s).toArray.all (·.oneCell') = true := by
  simp [slotCells, cellsOf, Value.oneCell']

theorem two10 {w : World} {g : Nat} {C : Array Value} {t : TypeId} (h : w.heap[g]? = some (.cells C t (0, 0))) (i : Nat) : w.cell? ⟨g, i, none⟩ = C[i]? := by
  simp [World.cell?, h]

end Go.Proofs.Ytpjfhfbjdcgbjaa
