/-
  The document's things, of one's own and appended; contract: with.
-/
import Derived.Test.YtpgiibpalmhhlaaGreatDoorDc
import Derived.Lib.AppendZeros
import Derived.Laws.AppendOwn
import Derived.Laws.AppendOwnNone
namespace Go.Proofs.YtpgiibpalmhhlaaGreatDoor
open Go.RowKit
open Go.Lib hiding intOf
set_option linter.unusedVariables false
set_option linter.unusedSimpArgs false

theorem i47 : ∃ i, Tryz.prog.info? 47 = some i ∧ i.size = 5 ∧ i.bytes = 48 ∧ ∃ z, i.zero = some z ∧ z.cells.size = 5 := by
  have a : (Tryz.prog.info? 47).map (fun i => (i.size, i.bytes)) = some (5, 48) := by kernel_rfl
  have b : ((Tryz.prog.info? 47).bind (fun i => i.zero)).map (fun z => z.cells.size) = some 5 := by kernel_rfl
  cases h : Tryz.prog.info? 47 with
  | none => rw [h] at a; simp at a
  | some i =>
    rw [h] at a b
    simp at a b
    cases hz : i.zero with
    | none => rw [hz] at b; simp at b
    | some z => rw [hz] at b; simp at b; exact ⟨i, rfl, a.1, a.2, z, hz, b⟩

def OwD (w : World) (B : Nat) (v : Value) (L : List Td) : Prop := w.ownsRow B 47 5 v L.length (flatD L)

theorem OwD.rs {w : World} {B : Nat} {ad : Option Addr} {n c : Nat} {L : List Td} (h : OwD w B (.slice ad n c) L) : n = L.length ∧ Ds w ad L := by
  rcases h.2 with ⟨e1, e2⟩ | ⟨g, cap, cur, e1, e2, e3, e4, e5, e6, e7⟩
  · cases e1; exact ⟨e2.symm, .inl (List.length_eq_zero_iff.1 e2)⟩
  · cases e1
    refine ⟨rfl, .inr ⟨g, 0, rfl, (Array.getElem?_eq_some_iff.1 e3).1, fun j v hv => ?_⟩⟩
    rw [Nat.zero_add]
    unfold World.cell?
    simp only [e3]
    rw [← e7, List.getElem?_take] at hv
    split at hv
    · simpa using hv
    · cases hv

theorem wpList_tds {W : World} {ops : Array Oper} {rest : List Oper} {o : Oper} {a : Act} {Q : Exit → Act → World → Prop} (hgd : o.guard = none) (s x : Operand)
    (ho : o.op = .call { callee := .builtin .append, args := #[s, x], argTypes := #[27, 27] })
    (B g0 n0 c0 : Nat) (L : List Td) (hs : a.eval s = .slice (some ⟨g0, 0, none⟩) n0 c0) (hn0 : L.length = n0) (hown : OwD W B (.slice (some ⟨g0, 0, none⟩) n0 c0) L) (hB : B ≤ W.heap.size)
    (ad : Option Addr) (n c : Nat) (M : List Td) (hx : a.eval x = .slice ad n c) (hn : M.length = n) (hM : Ds W ad M) (hnil : ad = none → c = 0) (hl : n0 + n ≤ 3000000)
    (h : ∀ g' c' w', OwD w' B (.slice (some ⟨g', 0, none⟩) (n0 + n) c') (L ++ M) → Below B W w' → wpList Tryz.prog ops Q rest (a.put o.dst (.slice (some ⟨g', 0, none⟩) (n0 + n) c')) w') : wpList Tryz.prog ops Q (o :: rest) a W := by
  obtain ⟨i0, hi0, hi1, hi2, z, hz, hzs⟩ := i47
  subst hn
  subst hn0
  cases ad with
  | none =>
    have hc := hnil rfl
    subst hc
    obtain rfl : M = [] := by
      rcases hM with h | ⟨b, o, e, _⟩
      · exact h
      · cases e
    refine wpList_append_own_none hgd s x 27 ho B 47 i0 5 Tryz.underlying27 hi0 _ _ _ hs hown hx ?_
    have := h g0 c0 W (by rw [List.append_nil]; exact hown) (Below.refl _ _)
    exact this
  | some ad =>
    have hb : ∀ j u, (flatD M)[j]? = some u → W.cell? (ad.add j) = some u := by
      intro j u hu
      rcases hM with h | ⟨b, o, e, _, h3⟩
      · subst h; simp [flatD] at hu
      · cases e; rw [Addr.add_mid]; exact h3 j u hu
    refine wpList_append_own _ hgd s x 27 ho B 47 i0 z 5 48 Tryz.underlying27 hi0 hz hi1 hi2 hzs (by decide) _ _ _ hs hown ad M.length c (flatD M) hx (flatD_length M) hb (flatD_one M) ?_ ?_ hB ?_
    · unfold maxLen; omega
    · omega
    · intro v' w3 hown' hgrow hh
      have hgB : B ≤ g0 := by
        rcases hown.2 with ⟨e1, _⟩ | ⟨g', cp, cur, e1, e2, _⟩
        · cases e1
        · simp at e1; omega
      have b3 : Below B W w3 := (Below.refl _ _).grown hgrow hB (fun k hk => by simp [Value.ownBlock] at hk; omega)
      have hne : v' ≠ .slice none 0 0 := fun e => by have := (hh.1 e).1; cases this
      obtain ⟨g', c', rfl⟩ : ∃ g' c', v' = .slice (some ⟨g', 0, none⟩) (L.length + M.length) c' := by
        rcases hown'.2 with ⟨e1, e2⟩ | ⟨g', c', cur, e1, _⟩
        · exact absurd e1 hne
        · exact ⟨g', c', e1⟩
      refine h g' c' w3 ?_ b3
      unfold OwD
      rw [flatD_append, List.length_append]
      exact hown'

theorem wpList_td1 {W : World} {ops : Array Oper} {rest : List Oper} {o : Oper} {a : Act} {Q : Exit → Act → World → Prop} (hgd : o.guard = none) (s x : Operand)
    (ho : o.op = .call { callee := .builtin .append, args := #[s, x], argTypes := #[27, 27] })
    (B : Nat) (v : Value) (L : List Td) (r : Td) (hs : a.eval s = v) (hown : OwD W B v L) (hB : B ≤ W.heap.size) (hx : a.eval x = .slice (some ⟨W.heap.size, 0, none⟩) 1 1) (hl : L.length ≤ 1000000)
    (h : ∀ g' c' w', OwD w' B (.slice (some ⟨g', 0, none⟩) (L.length + 1) c') (L ++ [r]) → Below B W w' → wpList Tryz.prog ops Q rest (a.put o.dst (.slice (some ⟨g', 0, none⟩) (L.length + 1) c')) w') : wpList Tryz.prog ops Q (o :: rest) a (W.alloc (.cells r.cs.toArray 47)) := by
  obtain ⟨i0, hi0, hi1, hi2, z, hz, hzs⟩ := i47
  have bA : Below W.heap.size W (W.alloc (.cells r.cs.toArray 47)) := below_box W _
  have hown2 : (W.alloc (.cells r.cs.toArray 47)).ownsRow B 47 5 v L.length (flatD L) := World.ownsRow.alloc hown _
  refine wpList_append_own _ hgd s x 27 ho B 47 i0 z 5 48 Tryz.underlying27 hi0 hz hi1 hi2 hzs (by decide) _ _ _ hs hown2 ⟨W.heap.size, 0, none⟩ 1 1 r.cs hx rfl ?_ (csD_one r) ?_ ?_ ?_ ?_
  · intro q u hu
    rw [Addr.add_mid, Nat.zero_add, World.cell?_alloc_new]
    simpa using hu
  · unfold maxLen; omega
  · omega
  · rw [size_box]; omega
  · intro v' w3 hown' hgrow hh
    have b3 : Below B W w3 := (bA.mono hB).grown hgrow (by rw [size_box]; omega) (fun k hk => by
      rcases hown.2 with ⟨e1, _⟩ | ⟨g', cp, cur, e1, e2, _⟩
      · subst e1; simp [Value.ownBlock] at hk
      · subst e1; simp [Value.ownBlock] at hk; omega)
    obtain ⟨g', c', rfl⟩ : ∃ g' c', v' = .slice (some ⟨g', 0, none⟩) (L.length + 1) c' := by
      rcases hown'.2 with ⟨e1, e2⟩ | ⟨g', c', cur, e1, _⟩
      · omega
      · exact ⟨g', c', e1⟩
    refine h g' c' w3 ?_ b3
    unfold OwD
    rw [flatD_append, flatD_cons, flatD_nil, List.append_nil, List.length_append]
    exact hown'

def HrD (w : World) (g : Nat) (L : List Td) : Prop := ∀ (j : Nat) (v : Value), (flatD L)[j]? = some v → w.cell? ⟨g, j, none⟩ = some v ∧ w.frozen? ⟨g, j, none⟩ = false

theorem OwD.hr {w : World} {B g n c : Nat} {L : List Td} (h : OwD w B (.slice (some ⟨g, 0, none⟩) n c) L) : HrD w g L := by
  rcases h.2 with ⟨e1, _⟩ | ⟨g', cap, cur, e1, e2, e3, e4, e5, e6, e7⟩
  · cases e1
  · cases e1
    intro j v hv
    refine ⟨?_, frozen_of_row w g j cur 47 e3⟩
    unfold World.cell?
    simp only [e3]
    rw [← e7, List.getElem?_take] at hv
    split at hv
    · simpa using hv
    · cases hv

theorem HrD.rs {w : World} {g : Nat} {L : List Td} (h : HrD w g L) (hg : g < w.heap.size) : Ds w (some ⟨g, 0, none⟩) L :=
  .inr ⟨g, 0, rfl, hg, fun j v hv => by rw [Nat.zero_add]; exact (h j v hv).1⟩

theorem HrD.below {w w' : World} {g : Nat} {L : List Td} (h : HrD w g L) (b : Below w.heap.size w w') (hg : g < w.heap.size) : HrD w' g L := fun j v hv => by
  have := h j v hv
  refine ⟨by rw [b.cell (p := ⟨g, j, none⟩) hg]; exact this.1, ?_⟩
  have e := b.block g hg
  have h2 := this.2
  unfold World.frozen? at h2 ⊢
  simp only [e]
  exact h2

theorem wpList_td2 {W' : World} {ops : Array Oper} {rest : List Oper} {o : Oper} {a : Act} {Q : Exit → Act → World → Prop} (hgd : o.guard = none) (s x : Operand)
    (ho : o.op = .call { callee := .builtin .append, args := #[s, x], argTypes := #[27, 27] })
    (W : World) (B : Nat) (v : Value) (L : List Td) (r : Td) (hW : W' = W.alloc (.cells r.cs.toArray 47)) (hs : a.eval s = v) (hown : OwD W B v L) (hB : B ≤ W.heap.size) (hx : a.eval x = .slice (some ⟨W.heap.size, 0, none⟩) 1 1) (hl : L.length ≤ 1000000)
    (h : ∀ g' c' w', OwD w' B (.slice (some ⟨g', 0, none⟩) (L.length + 1) c') (L ++ [r]) → Below B W w' → wpList Tryz.prog ops Q rest (a.put o.dst (.slice (some ⟨g', 0, none⟩) (L.length + 1) c')) w') : wpList Tryz.prog ops Q (o :: rest) a W' := by
  subst hW
  exact wpList_td1 hgd s x ho B v L r hs hown hB hx hl h

theorem OwD.below {W W' : World} {B : Nat} {v : Value} {L : List Td} (h : OwD W B v L) (b : Below W.heap.size W W') : OwD W' B v L := by
  refine ⟨h.1, ?_⟩
  rcases h.2 with ⟨e1, e2⟩ | ⟨g, cap, cur, e1, e2, e3, e4, e5, e6, e7⟩
  · exact .inl ⟨e1, e2⟩
  · exact .inr ⟨g, cap, cur, e1, e2, by rw [b.block g (Array.getElem?_eq_some_iff.1 e3).1]; exact e3, e4, e5, e6, e7⟩

theorem HrD.put {w : World} {g : Nat} {L : List Td} (h : HrD w g L) (i : Nat) (x : Td) (hi : i < L.length) : w.there g (i * 5) 5 ∧ Ds w (some ⟨g, 0, none⟩) L ∧ HrD (w.setCells g (i * 5) x.cs) g (L.set i x) := by
  have hth : w.there g (i * 5) 5 := fun j hj => by
    have hq : j < (L[i]).cs.length := by rw [Td.cs_length]; exact hj
    have := h (i * 5 + j) _ (flatD_get L i j (L[i]) _ (List.getElem?_eq_getElem hi) (List.getElem?_eq_getElem hq))
    exact ⟨by rw [this.1]; rfl, this.2⟩
  have hlt : g < w.heap.size := World.block_lt_of_cell? w _ (h (i * 5 + 0) _ (flatD_get L i 0 (L[i]) _ (List.getElem?_eq_getElem hi) rfl)).1
  refine ⟨hth, h.rs hlt, fun j v hv => ?_⟩
  have hj : j < L.length * 5 := by have := (List.getElem?_eq_some_iff.1 hv).1; rwa [flatD_length, List.length_set] at this
  have hl2 : j / 5 < L.length := by omega
  have hjj : j = (j / 5) * 5 + j % 5 := by omega
  have hm : j % 5 < 5 := Nat.mod_lt _ (by omega)
  have hfr : ∀ p : Addr, (w.setCells g (i * 5) x.cs).frozen? p = w.frozen? p := fun p => World.frozen?_setCells _ _ _ _ _
  by_cases e1 : j / 5 = i
  · have e2 : (L.set i x)[j / 5]? = some x := by rw [e1]; simp [hi]
    have hlen : j % 5 < x.cs.length := by rw [Td.cs_length]; exact hm
    have e3 := flatD_get _ (j / 5) (j % 5) _ _ e2 (List.getElem?_eq_getElem hlen)
    rw [← hjj, hv] at e3
    have e4 := World.rangeAt_setCells_same w g (i * 5) x.cs (by rw [Td.cs_length]; exact hth) (j % 5) v (by rw [e3]; exact List.getElem?_eq_getElem hlen)
    rw [show i * 5 + j % 5 = j by rw [← e1]; omega] at e4
    refine ⟨e4, ?_⟩
    rw [hfr]
    have := (hth (j % 5) hm).2
    rwa [show i * 5 + j % 5 = j by rw [← e1]; omega] at this
  · have e2 : (L.set i x)[j / 5]? = L[j / 5]? := by rw [List.getElem?_set_ne (fun q => e1 q.symm)]
    have hq := List.getElem?_eq_getElem hl2
    have hlen : j % 5 < (L[j / 5]).cs.length := by rw [Td.cs_length]; exact hm
    have e3 := flatD_get _ (j / 5) (j % 5) _ _ (e2.trans hq) (List.getElem?_eq_getElem hlen)
    have e4 := flatD_get L (j / 5) (j % 5) _ _ hq (List.getElem?_eq_getElem hlen)
    rw [← hjj] at e3 e4
    rw [hv] at e3
    have := h j v (e4.trans e3.symm)
    refine ⟨?_, by rw [hfr]; exact this.2⟩
    rw [World.cell?_setCells_out g x.cs (i * 5) w ⟨g, j, none⟩ (fun _ _ => by
      rw [Td.cs_length]
      show j < i * 5 ∨ i * 5 + 5 ≤ j
      omega)]
    exact this.1

/-- three boxes -/
structure T3 (w W : World) (T C D : Array Value) (a b c : TypeId) : Prop where
  one : W.heap[w.heap.size]? = some (.cells T a (0, 0))
  two : W.heap[w.heap.size + 1]? = some (.cells C b (0, 0))
  thr : W.heap[w.heap.size + 2]? = some (.cells D c (0, 0))
  bel : Below w.heap.size w W
  lt : w.heap.size + 3 ≤ W.heap.size
theorem T3.mk0 (w : World) (T C D : Array Value) (a b c : TypeId) : T3 w (((w.alloc (.cells T a)).alloc (.cells C b)).alloc (.cells D c)) T C D a b c := by
  have s1 := size_box w (.cells T a)
  have s2 := size_box (w.alloc (.cells T a)) (.cells C b)
  have s3 := size_box ((w.alloc (.cells T a)).alloc (.cells C b)) (.cells D c)
  refine ⟨?_, ?_, ?_, ?_, by omega⟩
  · rw [Below.heap_alloc _ _ _ (by omega), Below.heap_alloc _ _ _ (by omega)]; exact heap_alloc_new _ _
  · rw [Below.heap_alloc _ _ _ (by omega)]
    have := heap_alloc_new (w.alloc (.cells T a)) (.cells C b)
    rwa [s1] at this
  · have := heap_alloc_new ((w.alloc (.cells T a)).alloc (.cells C b)) (.cells D c)
    rwa [s2, s1] at this
  · exact ((below_box w _).alloc (by omega) _).alloc (by omega) _
theorem T3.next {w W W' : World} {T C D : Array Value} {a b c : TypeId} (h : T3 w W T C D a b c) (k : Below W.heap.size W W') : T3 w W' T C D a b c := by
  have := h.lt
  exact ⟨(k.block _ (by omega)).trans h.one, (k.block _ (by omega)).trans h.two, (k.block _ (by omega)).trans h.thr, h.bel.trans (k.mono (by omega)), Nat.le_trans h.lt k.size⟩
theorem T3.nextB {w W W' : World} {T C D : Array Value} {a b c : TypeId} (h : T3 w W T C D a b c) (k : Below (w.heap.size + 3) W W') : T3 w W' T C D a b c := by
  have := h.lt
  exact ⟨(k.block _ (by omega)).trans h.one, (k.block _ (by omega)).trans h.two, (k.block _ (by omega)).trans h.thr, h.bel.trans (k.mono (by omega)), Nat.le_trans h.lt k.size⟩
theorem T3.kept {w W : World} {T C D : Array Value} {a b c : TypeId} (h : T3 w W T C D a b c) : W.cell? ⟨w.heap.size, 0, none⟩ = T[0]? := cells_of h.one 0

theorem below_setCells {B : Nat} {w : World} {g : Nat} (hg : B ≤ g) : ∀ (vs : List Value) (o : Nat) {w' : World}, Below B w w' → Below B w (w'.setCells g o vs)
  | [], _, _, h => h
  | v :: r, o, _, h => below_setCells hg r (o + 1) (h.setCell (by show B ≤ g; exact hg) v)

theorem Ds.set1 {w : World} {gd : Nat} {L : List Td} (h : Ds w (some ⟨gd, 0, none⟩) L) (g j : Nat) (hne : gd ≠ g) (v : Value) : Ds (w.setCell ⟨g, j, none⟩ v) (some ⟨gd, 0, none⟩) L := by
  rcases h with h | ⟨b, o, h1, h2, h3⟩
  · exact .inl h
  · cases h1
    refine .inr ⟨gd, 0, rfl, by simpa using h2, fun i u hu => ?_⟩
    rw [World.cell?_setCell_far _ _ _ _ (by show g ≠ gd; omega)]
    exact h3 i u hu

/-- the end of 'with' -/
theorem fin_with {w w3 : World} {C : Array Value} {a b c : TypeId} {ad : Option Addr} {n cap : Nat} {nx : Int} (H : T3 w w3 #[.slice ad n cap, .int .i64 nx] C #[.slice none 0 0, .int .i64 0] a b c) {g1 : Nat} {M : List Td} (DS : Ds w3 (some ⟨g1, 0, none⟩) M) (hg : w.heap.size + 3 ≤ g1) (v u y : Value) :
    (((w3.setCell ⟨w.heap.size, 0, none⟩ v).setCell ⟨w.heap.size + 1 + 1, 0, none⟩ u).setCell ⟨w.heap.size + 1 + 1, 1, none⟩ y).heap[w.heap.size + 1 + 1]? = some (.cells #[u, y] c (0, 0)) ∧
      Ds (((w3.setCell ⟨w.heap.size, 0, none⟩ v).setCell ⟨w.heap.size + 1 + 1, 0, none⟩ u).setCell ⟨w.heap.size + 1 + 1, 1, none⟩ y) (some ⟨g1, 0, none⟩) M ∧
      Below w.heap.size w (((w3.setCell ⟨w.heap.size, 0, none⟩ v).setCell ⟨w.heap.size + 1 + 1, 0, none⟩ u).setCell ⟨w.heap.size + 1 + 1, 1, none⟩ y) := by
  refine ⟨two_set (a := .slice none 0 0) (b := .int .i64 0) ?_ u y, ((DS.set1 _ _ (by omega) _).set1 _ _ (by omega) _).set1 _ _ (by omega) _, ((H.bel.setCell (by show _ ≤ w.heap.size; omega) _).setCell (by show _ ≤ w.heap.size + 1 + 1; omega) _).setCell (by show _ ≤ w.heap.size + 1 + 1; omega) _⟩
  exact (Below.heap_setCell _ _ _ _ (by show w.heap.size + 1 + 1 ≠ w.heap.size; omega)).trans H.thr

theorem dz_no {L : List Td} {s : List UInt8} (h : fdD L s = false) : dz L s = -1 := by unfold dz; rw [h]; rfl
theorem dz_yes {L : List Td} {s : List UInt8} (h : fdD L s = true) : dz L s = (dx L s : Int) ∧ dx L s < L.length := by
  unfold dz; rw [h]; exact ⟨rfl, of_decide_eq_true h⟩

set_option maxRecDepth 20000 in
set_option maxHeartbeats 4000000 in
theorem with_d (ad : Option Addr) (cap : Nat) (nx : Int) (L : List Td) (x : Td) (w : World) (hr : Ds w ad L) (hl : L.length ≤ 900000) (hn : ad = none → cap = 0) :
    Calls Tryz.prog 50 #[.agg #[.slice ad L.length cap, .int .i64 nx], .agg x.cs.toArray] w fun e w' => ∃ gd c, e = .returned (.agg #[.slice (some ⟨gd, 0, none⟩) (withD L x).length c, .int .i64 nx]) ∧ Ds w' (some ⟨gd, 0, none⟩) (withD L x) ∧ (withD L x).length ≤ c ∧ w.heap.size + 3 ≤ gd ∧ Below w.heap.size w w' := by
  have KF : Hid (∀ W, Below w.heap.size w W → Calls Tryz.prog 13 #[.agg #[.slice ad L.length cap, .int .i64 nx], .string (bs x.p)] W fun e w' => e = .returned (.int .i64 (dz L x.p)) ∧ Below W.heap.size W w') := fun W hb => find_d ad cap nx L x.p W (hr.below hb) (by omega)
  have HR : Hid (Ds w ad L) := hr
  have HW : Hid (withD L x = if fdD L x.p then L.set (dx L x.p) x else L ++ [x]) := rfl
  have hl2 : Hid (0 + L.length ≤ 3000000) := (by show _ ≤ _; omega)
  have hl3 : Hid (L.length ≤ 1000000) := (by show _ ≤ _; omega)
  have H0 := T3.mk0 w #[.slice ad L.length cap, .int .i64 nx] x.cs.toArray #[.slice none 0 0, .int .i64 0] 29 47 29
  clear hr
  generalize hN : L.length = n at *
  have HN : Hid (L.length = n) := hN
  clear hN
  have hcs : Hid (x.cs.toArray = #[.string (bs x.p), .int .i64 x.k, .int .i64 x.m, .bool x.made, .int .i64 x.id]) := rfl
  rw [hcs.out] at H0 ⊢
  go_enter Tryz.func50, Tryz.ntmps50
  go_upto_region 1 with fail
  generalize ((w.alloc _).alloc _).alloc _ = w0 at *
  have m0 := cells_of (H0.next (below_box w0 (.cells #[] 47))).one
  have O0 : Hid (OwD (w0.alloc (.cells #[] 47)) w0.heap.size (.slice (some ⟨w0.heap.size, 0, none⟩) 0 0) []) := ⟨rfl, .inr ⟨w0.heap.size, 0, #[], rfl, Nat.le_refl _, heap_alloc_new w0 _, Nat.le_refl _, by unfold maxLen; omega, rfl, rfl⟩⟩
  have hlt0 := H0.lt
  have R0 : Hid (Ds w0 ad L) := HR.out.below H0.bel
  go_upto_region 2 with (at_builtin; refine wpList_tds rfl _ _ rfl w0.heap.size w0.heap.size 0 0 [] rfl rfl O0.out (by rw [size_box]; omega) ad n cap L rfl HN.out (R0.out.below (below_box w0 _)) hn hl2.out ?_; intro g1 e1 v1 O1 b1; simp only [List.nil_append, Nat.zero_add] at O1 ⊢)
  have b1' : Below w0.heap.size w0 v1 := (below_box w0 _).trans b1
  have H1 : Hid (T3 w v1 _ _ _ _ _ _) := H0.next b1'
  have hg1 : w0.heap.size ≤ g1 ∧ n ≤ e1 := by
    rcases O1.2 with ⟨q1, _⟩ | ⟨g', cp, cur, q1, q2, q3, q4, _⟩
    · cases q1
    · simp at q1
      have := HN.out
      omega
  have HO1 : Hid (OwD v1 w0.heap.size (.slice (some ⟨g1, 0, none⟩) n e1) L) := O1
  clear O0 O1 b1 m0 H0
  have m1 := cells_of H1.out.one
  have m2 := cells_of H1.out.two
  go_upto_region 3 with (go_at_call 13; refine (KF.out _ H1.out.bel).mono ?_; rintro e w2 ⟨rfl, b2⟩)
  have H2 : Hid (T3 w w2 _ _ _ _ _ _) := H1.out.next b2
  have hlt1 : w0.heap.size ≤ v1.heap.size := b1'.size
  clear m1 m2
  have m1 := cells_of H2.out.one
  have m2 := cells_of H2.out.two
  have m3 := cells_of H2.out.thr
  have f1 := froz_of H2.out.one
  have f3 := froz_of H2.out.thr
  have HO2 : Hid (OwD w2 w0.heap.size (.slice (some ⟨g1, 0, none⟩) n e1) L) := HO1.out.below b2
  have hW2 := HW.out
  by_cases hf : fdD L x.p = true
  · rw [if_pos hf] at hW2
    obtain ⟨z1, z2⟩ := dz_yes hf
    rw [HN.out] at z2
    have HWs : Hid (withD L x = L.set (dx L x.p) x) := hW2
    have HLl : Hid ((withD L x).length = n) := (by show _ = _; rw [hW2, List.length_set]; exact HN.out)
    rw [z1]
    generalize dx L x.p = X at *
    obtain ⟨P1, P2, P3⟩ := HrD.put (OwD.hr HO2.out) X x (by rw [HN.out]; exact z2)
    have i1 : ¬ (X : Int) < 0 := by omega
    have i2 : (0 : Int) ≤ (X : Int) := by omega
    have i3 : (X : Int) < (n : Int) := by omega
    have hP1 : Hid (w2.there g1 (X * 5) 5) := P1
    have hP3 : Hid (HrD (w2.setCells g1 (X * 5) x.cs) g1 (L.set X x)) := P3
    have hlt3 : g1 < w2.heap.size := (OwD.rs HO2.out).2.elim (fun h => by have := HN.out; rw [h] at this; simp at this; omega) (fun ⟨b, o, e, hb, _⟩ => by cases e; exact hb)
    have BB : Below (w.heap.size + 3) w2 (w2.setCells g1 (X * 5) x.cs) := below_setCells (by omega) _ _ (Below.refl _ _)
    have H3 : Hid (T3 w (w2.setCells g1 (X * 5) x.cs) _ _ _ _ _ _) := H2.out.nextB BB
    have DS : Hid (Ds (w2.setCells g1 (X * 5) x.cs) (some ⟨g1, 0, none⟩) (L.set X x)) := hP3.out.rs (Nat.lt_of_lt_of_le hlt3 BB.size)
    have hcs2 : Hid (x.cs = [.string (bs x.p), .int .i64 x.k, .int .i64 x.m, .bool x.made, .int .i64 x.id]) := rfl
    rw [hcs2.out] at H3 DS
    have hsi : Hid ((Tryz.prog.info? 47).map (·.size) = some (#[.string (bs x.p), .int .i64 x.k, .int .i64 x.m, .bool x.made, .int .i64 x.id] : Array Value).size) := (by show _ = _; kernel_rfl)
    have hone : Hid ((#[.string (bs x.p), .int .i64 x.k, .int .i64 x.m, .bool x.made, .int .i64 x.id] : Array Value).all (·.oneCell') = true) := all_oneCell_toArray (csD_one x)
    have hth : Hid (w2.there g1 (X * 5) (#[.string (bs x.p), .int .i64 x.k, .int .i64 x.m, .bool x.made, .int .i64 x.id] : Array Value).size) := hP1.out
    clear hP3 P3 P1 P2 BB hf z1 hW2 HW KF HO1 HO2 H1 HR R0
    go_upto_region 6 with (refine wpList_store_mid rfl 47 _ _ rfl g1 (X * 5) #[.string (bs x.p), .int .i64 x.k, .int .i64 x.m, .bool x.made, .int .i64 x.id] rfl rfl hth.out hsi.out hone.out ?_)
    generalize w2.setCells g1 (X * 5) _ = w3 at *
    clear m1 m2 m3 f1 f3 hP1 hth
    have m1 := cells_of H3.out.one
    have m3 := cells_of H3.out.thr
    have f1 := froz_of H3.out.one
    have f3 := froz_of H3.out.thr
    have hb3 := H3.out.bel
    go_wp2_with fail
    obtain ⟨q1, q2, q3⟩ := fin_with H3.out DS.out (by omega) (.slice (some ⟨g1, 0, none⟩) n e1) (.slice (some ⟨g1, 0, none⟩) n e1) (.int .i64 nx)
    exact bodyPost_ret (results_cell_row rfl _ _ (w.heap.size + 1 + 1) 29 _ (0, 0) _ rfl q1 Tryz.underlying29 rfl (by kernel_rfl)) rfl ⟨g1, e1, by rw [HLl.out], by rw [HWs.out]; exact q2, by rw [HLl.out]; exact hg1.2, by omega, q3⟩
  · rw [if_neg hf] at hW2
    have z1 := dz_no (by simpa using hf : fdD L x.p = false)
    have HWs : Hid (withD L x = L ++ [x]) := hW2
    have HLl : Hid ((withD L x).length = n + 1) := (by show _ = _; rw [hW2, List.length_append, List.length_singleton, HN.out])
    rw [z1]
    have i1 : (-1 : Int) < 0 := by omega
    have hl4 : Hid (L.length ≤ 1000000) := (by show _ ≤ _; rw [HN.out]; exact hl3.out)
    have hlt2 : w0.heap.size ≤ w2.heap.size := Nat.le_trans hlt1 b2.size
    clear hf z1 hW2 HW KF HO1 H1 HR R0 m1 m3 f1 f3
    have hcs2 : Hid (x.cs.toArray = #[.string (bs x.p), .int .i64 x.k, .int .i64 x.m, .bool x.made, .int .i64 x.id]) := rfl
    go_upto_region 6 with (at_builtin; refine wpList_td2 rfl _ _ rfl w2 w0.heap.size _ L x rfl rfl HO2.out hlt2 rfl hl4.out ?_; intro g3 e3 w3 O3 b3)
    have HN2 := HN.out
    have hg3 : w0.heap.size ≤ g3 ∧ L.length + 1 ≤ e3 := by
      rcases O3.2 with ⟨q1, _⟩ | ⟨g', cp, cur, q1, q2, q3, q4, _⟩
      · cases q1
      · simp at q1
        rw [List.length_append, List.length_singleton] at q4
        omega
    have DS : Hid (Ds w3 (some ⟨g3, 0, none⟩) (L ++ [x])) := (OwD.rs O3).2
    have H3 : Hid (T3 w w3 _ _ _ _ _ _) := H2.out.nextB (b3.mono (by omega))
    rw [HN2] at hg3 ⊢
    clear O3 b3 HO2 H2 m2
    have m1 := cells_of H3.out.one
    have m3 := cells_of H3.out.thr
    have f1 := froz_of H3.out.one
    have f3 := froz_of H3.out.thr
    go_wp2_with fail
    obtain ⟨q1, q2, q3⟩ := fin_with H3.out DS.out (by omega) (.slice (some ⟨g3, 0, none⟩) (n + 1) e3) (.slice (some ⟨g3, 0, none⟩) (n + 1) e3) (.int .i64 nx)
    exact bodyPost_ret (results_cell_row rfl _ _ (w.heap.size + 1 + 1) 29 _ (0, 0) _ rfl q1 Tryz.underlying29 rfl (by kernel_rfl)) rfl ⟨g3, e3, by rw [HLl.out], by rw [HWs.out]; exact q2, by rw [HLl.out]; exact hg3.2, by omega, q3⟩

end Go.Proofs.YtpgiibpalmhhlaaGreatDoor
