/-
  Contracts: lay, Put.
-/
import Derived.Test.YtojnniacmmcddaaDoorT5
namespace Go.Proofs.YtojnniacmmcddaaDoor
open Go.RowKit
open Go.Lib hiding intOf
set_option linter.unusedVariables false
set_option linter.unusedSimpArgs false

def lowAt (a : Option Addr) (cap c : Nat) : Option Addr := if cap = c then a else a.map (·.add (c * 13))

theorem info40 : (Tryd.prog.info? 40).map (·.size) = some 13 := by kernel_rfl

set_option maxRecDepth 20000 in
theorem run_lowAt (w : World) (a : Option Addr) (n cap c : Nat) (h : c ≤ n) : (Instr.sliceAt 24 (.slice a n cap) (some (.int .i64 (c : Int))) none none).run Tryd.prog w = .ok (.slice (lowAt a cap c) (n - c) (cap - c)) w := by
  rw [run_sliceAt_slice w 24 _ _ _ _ Tryd.underlying24]
  have hi := info40
  cases hq : Tryd.prog.info? 40 with
  | none => simp [hq] at hi
  | some i =>
    have hs : i.size = 13 := by simpa [hq] using hi
    have hb : (Instr.sliceBound (.int .i64 (c : Int)) n .sliceB).run Tryd.prog w = .ok c w := by
      have := run_sliceBound (P := Tryd.prog) w .i64 (c : Int) n .sliceB (by omega) (by omega)
      simpa using this
    simp [Instr.slice, run_underlying Tryd.underlying24, Instr.sliceBounds, sizeOf, typeInfo, hq, hs, hb, lowAt]

set_option maxRecDepth 20000 in
theorem run_highAt (w : World) (a : Option Addr) (n cap c : Nat) (h : c ≤ cap) : (Instr.sliceAt 24 (.slice a n cap) none (some (.int .i64 (c : Int))) none).run Tryd.prog w = .ok (.slice a c cap) w := by
  rw [run_sliceAt_slice w 24 _ _ _ _ Tryd.underlying24]
  have hi := info40
  cases hq : Tryd.prog.info? 40 with
  | none => simp [hq] at hi
  | some i =>
    have hb : (Instr.sliceBound (.int .i64 (c : Int)) cap .sliceAcap).run Tryd.prog w = .ok c w := by
      have := run_sliceBound (P := Tryd.prog) w .i64 (c : Int) cap .sliceAcap (by omega) (by omega)
      simpa using this
    cases a <;> simp [Instr.slice, run_underlying Tryd.underlying24, Instr.sliceBounds, sizeOf, typeInfo, hq, hb, Addr.add]

theorem Rs.take {w : World} {ad : Option Addr} {L : List Rw} (h : Rs w ad L) (c : Nat) : Rs w ad (L.take c) := by
  rcases h with h | ⟨b, o, h1, h2, h3⟩
  · subst h; exact .inl (by simp)
  · refine .inr ⟨b, o, h1, h2, fun j v hv => h3 j v ?_⟩
    have e : flat L = flat (L.take c) ++ flat (L.drop c) := by rw [← flat_append, List.take_append_drop]
    rw [e, List.getElem?_append_left (List.getElem?_eq_some_iff.1 hv).1]
    exact hv

theorem Rs.drop {w : World} {ad : Option Addr} {L : List Rw} (h : Rs w ad L) (cap c : Nat) (hc : L.length ≤ cap) : Rs w (lowAt ad cap c) (L.drop c) := by
  by_cases hl : L.length ≤ c
  · exact .inl (List.drop_eq_nil_of_le hl)
  · rcases h with h | ⟨b, o, h1, h2, h3⟩
    · subst h; exact .inl (by simp)
    · refine .inr ⟨b, o + c * 13, ?_, h2, fun j v hv => ?_⟩
      · subst h1
        unfold lowAt
        rw [if_neg (by omega)]
        rw [Option.map_some, Addr.add_mid]
      · rw [Nat.add_assoc]
        refine h3 _ v ?_
        have e : flat L = flat (L.take c) ++ flat (L.drop c) := by rw [← flat_append, List.take_append_drop]
        have l1 : (flat (L.take c)).length = c * 13 := by rw [flat_length, List.length_take]; rw [Nat.min_eq_left (by omega)]
        rw [e, List.getElem?_append_right (by rw [l1]; omega), l1, Nat.add_sub_cancel_left]
        exact hv

theorem low_none {ad : Option Addr} {cap c : Nat} (h : lowAt ad cap c = none) : ad = none := by
  unfold lowAt at h
  split at h
  · exact h
  · simpa using h

/-- a row laid into rows -/
def putL (L : List Rw) (r : Rw) : List Rw := L.take (ix L r.p) ++ [r] ++ L.drop (ix L r.p + if fd L r.p then 1 else 0)

/-- what lay keeps in memory -/
structure Ly (w W : World) (T C D : Array Value) : Prop where
  tre : W.heap[w.heap.size]? = some (.cells T 26 (0, 0))
  row : W.heap[w.heap.size + 1]? = some (.cells C 40 (0, 0))
  res : W.heap[w.heap.size + 2]? = some (.cells D 26 (0, 0))
  bel : Below w.heap.size w W
  lt : w.heap.size + 3 ≤ W.heap.size

theorem Ly.next {w W W' : World} {T C D : Array Value} (h : Ly w W T C D) (b : Below W.heap.size W W') : Ly w W' T C D := by
  have := h.lt
  exact ⟨by rw [b.block _ (by omega)]; exact h.tre, by rw [b.block _ (by omega)]; exact h.row, by rw [b.block _ (by omega)]; exact h.res, h.bel.trans (b.mono h.bel.size), Nat.le_trans h.lt b.size⟩
theorem Ly.drew {w W : World} {T C D : Array Value} (h : Ly w W T C D) : Ly w W.drew T C D := ⟨h.tre, h.row, h.res, h.bel.drew, h.lt⟩
theorem Ly.mk0 (w : World) (T C D : Array Value) : Ly w (((w.alloc (.cells T 26)).alloc (.cells C 40)).alloc (.cells D 26)) T C D := by
  have s1 := size_box w (.cells T 26)
  have s2 := size_box (w.alloc (.cells T 26)) (.cells C 40)
  have s3 := size_box ((w.alloc (.cells T 26)).alloc (.cells C 40)) (.cells D 26)
  refine ⟨?_, ?_, ?_, ?_, by omega⟩
  · rw [Below.heap_alloc _ _ _ (by omega), Below.heap_alloc _ _ _ (by omega)]; exact heap_alloc_new _ _
  · rw [Below.heap_alloc _ _ _ (by omega)]
    have := heap_alloc_new (w.alloc (.cells T 26)) (.cells C 40)
    rwa [s1] at this
  · have := heap_alloc_new ((w.alloc (.cells T 26)).alloc (.cells C 40)) (.cells D 26)
    rwa [s2, s1] at this
  · exact ((below_box w _).alloc (by omega) _).alloc (by omega) _

theorem two_set {w : World} {g : Nat} {a b : Value} {t : TypeId} (h : w.heap[g]? = some (.cells #[a, b] t (0, 0))) (x y : Value) : ((w.setCell ⟨g, 0, none⟩ x).setCell ⟨g, 1, none⟩ y).heap[g]? = some (.cells #[x, y] t (0, 0)) := by
  have h1 := setRow_heap w g _ (#[a, b].setIfInBounds 0 x) t (0, 0) h
  rw [← setCell_eq_setRow w g 0 _ t (0, 0) x h] at h1
  have h2 := setRow_heap _ g _ ((#[a, b].setIfInBounds 0 x).setIfInBounds 1 y) t (0, 0) h1
  rw [← setCell_eq_setRow _ g 1 _ t (0, 0) y h1] at h2
  exact h2

theorem Rs.far {w : World} {ad : Option Addr} {L : List Rw} (h : Rs w ad L) {gd : Nat} (hd : ad = some ⟨gd, 0, none⟩) (g : Nat) (hne : gd ≠ g) (x y : Value) : Rs ((w.setCell ⟨g, 0, none⟩ x).setCell ⟨g, 1, none⟩ y) ad L := by
  rcases h with h | ⟨b, o, h1, h2, h3⟩
  · exact .inl h
  · rw [hd] at h1
    cases h1
    refine .inr ⟨gd, 0, hd, by simpa using h2, fun j v hv => ?_⟩
    rw [World.cell?_setCell_far _ _ _ _ (by show g ≠ gd; omega), World.cell?_setCell_far _ _ _ _ (by show g ≠ gd; omega)]
    exact h3 j v hv

set_option maxRecDepth 20000 in
set_option maxHeartbeats 4000000 in
theorem lay_core (F : Bool) (ad : Option Addr) (cap n i j : Nat) (nx : Int) (r : Rw) (w : World) (hF : j = if F then i + 1 else i) (hj : j ≤ n) (hn : n ≤ 1000000) (hcap : n ≤ cap)
    (KQ : Hid (∀ W, Below w.heap.size w W → Calls Tryd.prog 51 #[.agg #[.slice ad n cap, .int .i64 nx], .string (bs r.p)] W fun e w' => e = .returned (.tuple #[.int .i64 (i : Int), .bool F]) ∧ Below W.heap.size W w'))
    (M : List Rw)
    (KC : Hid (∀ W g gr, Below w.heap.size w W → g < W.heap.size → W.cell? ⟨g, 0, none⟩ = some (.slice ad i cap) → W.cell? ⟨g, 1, none⟩ = some (.slice (some ⟨gr, 0, none⟩) 1 1) → W.cell? ⟨g, 2, none⟩ = some (.slice (lowAt ad cap j) (n - j) (cap - j)) → gr < W.heap.size → W.rangeAt gr 0 r.cs →
      Calls Tryd.prog 53 #[.slice (some ⟨g, 0, none⟩) 3 3] W fun e w' => ∃ gd c, e = .returned (.slice (some ⟨gd, 0, none⟩) M.length c) ∧ Rs w' (some ⟨gd, 0, none⟩) M ∧ W.heap.size ≤ gd ∧ M.length ≤ c ∧ Below W.heap.size W w')) :
    Calls Tryd.prog 48 #[.agg #[.slice ad n cap, .int .i64 nx], .agg r.cs.toArray] w fun e w' => ∃ gd c, e = .returned (.agg #[.slice (some ⟨gd, 0, none⟩) M.length c, .int .i64 nx]) ∧ Rs w' (some ⟨gd, 0, none⟩) M ∧ w.heap.size ≤ gd ∧ M.length ≤ c ∧ Below w.heap.size w w' := by
  have H0 := Ly.mk0 w #[.slice ad n cap, .int .i64 nx] #[.string (bs r.p), .int .i64 r.id, .int .i64 r.kind, .int .i64 r.mode, .int .i64 0, .int .i64 0, .int .i64 0, .string ⟨#[]⟩, .string ⟨#[]⟩, .string ⟨#[]⟩, .slice none 0 0, .int .i64 r.size, .bool r.made] #[.slice none 0 0, .int .i64 0]
  have hb3 : Hid (∀ o p q, Below w.heap.size w (((w.alloc o).alloc p).alloc q)) := fun o p q => ((below_box w o).alloc (by rw [size_box]; omega) p).alloc (by rw [size_box, size_box]; omega) q
  have HCS : Hid (r.cs = [.string (bs r.p), .int .i64 r.id, .int .i64 r.kind, .int .i64 r.mode, .int .i64 0, .int .i64 0, .int .i64 0, .string ⟨#[]⟩, .string ⟨#[]⟩, .string ⟨#[]⟩, .slice none 0 0, .int .i64 r.size, .bool r.made]) := rfl
  have wi : wrap64 ((i : Int) + 1) = ((i + 1 : Nat) : Int) := by unfold wrap64; cases F <;> simp at hF <;> omega
  unfold Rw.cs
  cases F with
  | false =>
    simp only [Bool.false_eq_true, if_false] at hF
    obtain rfl : i = j := hF.symm
    clear wi hF
    go_enter Tryd.func48, Tryd.ntmps48
    go_upto_region 5 with (go_at_call 51; refine (KQ.out _ (hb3.out _ _ _)).mono ?_; rintro e w1 ⟨rfl, b1⟩; have H1 : Hid (Ly w w1 _ _ _) := H0.next b1)
    have L0 := H1.out
    have c0 := cells_of L0.tre 0
    have c1 := cells_of L0.tre 1
    have c2 := cells_of L0.row
    have c3 := cells_of L0.res 0
    have c4 := cells_of L0.res 1
    have f3 := froz_of L0.res
    have q1 := fun W => run_lowAt W ad n cap i hj
    have q2 := fun W => run_highAt W ad n cap i (by omega)
    have hj1 : (0 : Int) ≤ (i : Int) := by omega
    have hj2 : (i : Int) ≤ (n : Int) := by omega
    have hj3 : (i : Int) ≤ (cap : Int) := by omega
    have lt0 : w.heap.size < w1.heap.size := by have := L0.lt; omega
    have lt1 : w.heap.size + 1 < w1.heap.size := by have := L0.lt; omega
    have lt2 : w.heap.size + 2 < w1.heap.size := by have := L0.lt; omega
    have LA : Hid (∀ A B, Ly w ((w1.alloc A).alloc B).drew _ _ _) := fun A B => ((L0.next (below_box w1 A)).next (below_box _ B)).drew
    have KC1 : Hid (Calls Tryd.prog 53 #[.slice (some ⟨w1.heap.size + 1, 0, none⟩) 3 3] ((w1.alloc (.cells #[.string (bs r.p), .int .i64 r.id, .int .i64 r.kind, .int .i64 r.mode, .int .i64 0, .int .i64 0, .int .i64 0, .string ⟨#[]⟩, .string ⟨#[]⟩, .string ⟨#[]⟩, .slice none 0 0, .int .i64 r.size, .bool r.made] 40)).alloc (.cells #[.slice ad i cap, .slice (some ⟨w1.heap.size, 0, none⟩) 1 1, .slice (lowAt ad cap i) (n - i) (cap - i)] 24)).drew fun e w' => ∃ gd c, e = .returned (.slice (some ⟨gd, 0, none⟩) M.length c) ∧ Rs w' (some ⟨gd, 0, none⟩) M ∧ (((w1.alloc (.cells #[.string (bs r.p), .int .i64 r.id, .int .i64 r.kind, .int .i64 r.mode, .int .i64 0, .int .i64 0, .int .i64 0, .string ⟨#[]⟩, .string ⟨#[]⟩, .string ⟨#[]⟩, .slice none 0 0, .int .i64 r.size, .bool r.made] 40)).alloc (.cells #[.slice ad i cap, .slice (some ⟨w1.heap.size, 0, none⟩) 1 1, .slice (lowAt ad cap i) (n - i) (cap - i)] 24)).drew).heap.size ≤ gd ∧ M.length ≤ c ∧ Below (((w1.alloc (.cells #[.string (bs r.p), .int .i64 r.id, .int .i64 r.kind, .int .i64 r.mode, .int .i64 0, .int .i64 0, .int .i64 0, .string ⟨#[]⟩, .string ⟨#[]⟩, .string ⟨#[]⟩, .slice none 0 0, .int .i64 r.size, .bool r.made] 40)).alloc (.cells #[.slice ad i cap, .slice (some ⟨w1.heap.size, 0, none⟩) 1 1, .slice (lowAt ad cap i) (n - i) (cap - i)] 24)).drew).heap.size ((w1.alloc (.cells #[.string (bs r.p), .int .i64 r.id, .int .i64 r.kind, .int .i64 r.mode, .int .i64 0, .int .i64 0, .int .i64 0, .string ⟨#[]⟩, .string ⟨#[]⟩, .string ⟨#[]⟩, .slice none 0 0, .int .i64 r.size, .bool r.made] 40)).alloc (.cells #[.slice ad i cap, .slice (some ⟨w1.heap.size, 0, none⟩) 1 1, .slice (lowAt ad cap i) (n - i) (cap - i)] 24)).drew w') := by
      have hh := two_new' w1 (.cells #[.string (bs r.p), .int .i64 r.id, .int .i64 r.kind, .int .i64 r.mode, .int .i64 0, .int .i64 0, .int .i64 0, .string ⟨#[]⟩, .string ⟨#[]⟩, .string ⟨#[]⟩, .slice none 0 0, .int .i64 r.size, .bool r.made] 40) (.cells #[.slice ad i cap, .slice (some ⟨w1.heap.size, 0, none⟩) 1 1, .slice (lowAt ad cap i) (n - i) (cap - i)] 24)
      have sz : (((w1.alloc (.cells #[.string (bs r.p), .int .i64 r.id, .int .i64 r.kind, .int .i64 r.mode, .int .i64 0, .int .i64 0, .int .i64 0, .string ⟨#[]⟩, .string ⟨#[]⟩, .string ⟨#[]⟩, .slice none 0 0, .int .i64 r.size, .bool r.made] 40)).alloc (.cells #[.slice ad i cap, .slice (some ⟨w1.heap.size, 0, none⟩) 1 1, .slice (lowAt ad cap i) (n - i) (cap - i)] 24)).drew).heap.size = w1.heap.size + 2 := by
        show ((w1.alloc _).alloc _).heap.size = _
        rw [size_box, size_box]
      refine KC.out _ _ w1.heap.size (LA.out _ _).bel (by omega) (cells_of hh 0) (cells_of hh 1) (cells_of hh 2) (by omega) ?_
      have hr0 := kept_first (Below.refl (((w1.alloc (.cells #[.string (bs r.p), .int .i64 r.id, .int .i64 r.kind, .int .i64 r.mode, .int .i64 0, .int .i64 0, .int .i64 0, .string ⟨#[]⟩, .string ⟨#[]⟩, .string ⟨#[]⟩, .slice none 0 0, .int .i64 r.size, .bool r.made] 40)).alloc (.cells #[.slice ad i cap, .slice (some ⟨w1.heap.size, 0, none⟩) 1 1, .slice (lowAt ad cap i) (n - i) (cap - i)] 24))).heap.size ((w1.alloc (.cells #[.string (bs r.p), .int .i64 r.id, .int .i64 r.kind, .int .i64 r.mode, .int .i64 0, .int .i64 0, .int .i64 0, .string ⟨#[]⟩, .string ⟨#[]⟩, .string ⟨#[]⟩, .slice none 0 0, .int .i64 r.size, .bool r.made] 40)).alloc (.cells #[.slice ad i cap, .slice (some ⟨w1.heap.size, 0, none⟩) 1 1, .slice (lowAt ad cap i) (n - i) (cap - i)] 24)))
      intro k v hv
      rw [Nat.zero_add]
      have := cells_of hr0 k
      refine Eq.trans (show _ = _ from this) ?_
      rw [HCS.out] at hv
      simpa using hv
    clear H1 H0 b1
    have HS : Hid (∀ W, Ly w W #[.slice ad n cap, .int .i64 nx] #[.string (bs r.p), .int .i64 r.id, .int .i64 r.kind, .int .i64 r.mode, .int .i64 0, .int .i64 0, .int .i64 0, .string ⟨#[]⟩, .string ⟨#[]⟩, .string ⟨#[]⟩, .slice none 0 0, .int .i64 r.size, .bool r.made] #[.slice none 0 0, .int .i64 0] → W.cell? ⟨w.heap.size, 0, none⟩ = some (.slice ad n cap) ∧ W.cell? ⟨w.heap.size, 1, none⟩ = some (.int .i64 nx) ∧ (∀ k, W.cell? ⟨w.heap.size + 1, k, none⟩ = (#[.string (bs r.p), .int .i64 r.id, .int .i64 r.kind, .int .i64 r.mode, .int .i64 0, .int .i64 0, .int .i64 0, .string ⟨#[]⟩, .string ⟨#[]⟩, .string ⟨#[]⟩, .slice none 0 0, .int .i64 r.size, .bool r.made] : Array Value)[k]?)) := fun W h => ⟨cells_of h.tre 0, cells_of h.tre 1, cells_of h.row⟩
    have HK : Hid (∀ W p v, p.block = w.heap.size + 2 → (W.cell? ⟨w.heap.size, 0, none⟩ = some (.slice ad n cap) ∧ W.cell? ⟨w.heap.size, 1, none⟩ = some (.int .i64 nx) ∧ (∀ k, W.cell? ⟨w.heap.size + 1, k, none⟩ = (#[.string (bs r.p), .int .i64 r.id, .int .i64 r.kind, .int .i64 r.mode, .int .i64 0, .int .i64 0, .int .i64 0, .string ⟨#[]⟩, .string ⟨#[]⟩, .string ⟨#[]⟩, .slice none 0 0, .int .i64 r.size, .bool r.made] : Array Value)[k]?)) → (fun W => W.cell? ⟨w.heap.size, 0, none⟩ = some (.slice ad n cap) ∧ W.cell? ⟨w.heap.size, 1, none⟩ = some (.int .i64 nx) ∧ (∀ k, W.cell? ⟨w.heap.size + 1, k, none⟩ = (#[.string (bs r.p), .int .i64 r.id, .int .i64 r.kind, .int .i64 r.mode, .int .i64 0, .int .i64 0, .int .i64 0, .string ⟨#[]⟩, .string ⟨#[]⟩, .string ⟨#[]⟩, .slice none 0 0, .int .i64 r.size, .bool r.made] : Array Value)[k]?)) (World.setCell W p v)) := fun W p v hp h => ⟨by rw [World.cell?_setCell_far _ _ _ _ (by rw [hp]; show _ ≠ w.heap.size; omega)]; exact h.1, by rw [World.cell?_setCell_far _ _ _ _ (by rw [hp]; show _ ≠ w.heap.size; omega)]; exact h.2.1, fun k => by rw [World.cell?_setCell_far _ _ _ _ (by rw [hp]; show _ ≠ w.heap.size + 1; omega)]; exact h.2.2 k⟩
    have h3 := HS.out _ L0.drew
    have hA : Hid (∀ A, (fun W => W.cell? ⟨w.heap.size, 0, none⟩ = some (.slice ad n cap) ∧ W.cell? ⟨w.heap.size, 1, none⟩ = some (.int .i64 nx) ∧ (∀ k, W.cell? ⟨w.heap.size + 1, k, none⟩ = (#[.string (bs r.p), .int .i64 r.id, .int .i64 r.kind, .int .i64 r.mode, .int .i64 0, .int .i64 0, .int .i64 0, .string ⟨#[]⟩, .string ⟨#[]⟩, .string ⟨#[]⟩, .slice none 0 0, .int .i64 r.size, .bool r.made] : Array Value)[k]?)) (w1.alloc A).drew) := fun A => HS.out _ (L0.next (below_box w1 A)).drew
    have hB : Hid (∀ A B, (fun W => W.cell? ⟨w.heap.size, 0, none⟩ = some (.slice ad n cap) ∧ W.cell? ⟨w.heap.size, 1, none⟩ = some (.int .i64 nx) ∧ (∀ k, W.cell? ⟨w.heap.size + 1, k, none⟩ = (#[.string (bs r.p), .int .i64 r.id, .int .i64 r.kind, .int .i64 r.mode, .int .i64 0, .int .i64 0, .int .i64 0, .string ⟨#[]⟩, .string ⟨#[]⟩, .string ⟨#[]⟩, .slice none 0 0, .int .i64 r.size, .bool r.made] : Array Value)[k]?)) ((w1.alloc A).alloc B).drew) := fun A B => HS.out _ (LA.out A B)
    clear c0 c1 c2 c3 c4 f3 L0
    go_region_held3 (fun W => W.cell? ⟨w.heap.size, 0, none⟩ = some (.slice ad n cap) ∧ W.cell? ⟨w.heap.size, 1, none⟩ = some (.int .i64 nx) ∧ (∀ k, W.cell? ⟨w.heap.size + 1, k, none⟩ = (#[.string (bs r.p), .int .i64 r.id, .int .i64 r.kind, .int .i64 r.mode, .int .i64 0, .int .i64 0, .int .i64 0, .string ⟨#[]⟩, .string ⟨#[]⟩, .string ⟨#[]⟩, .slice none 0 0, .int .i64 r.size, .bool r.made] : Array Value)[k]?)) (first | assumption | exact h3 | exact hA.out _ | exact hB.out _ _ | exact HK.out _ _ _ rfl (HK.out _ _ _ rfl h4) | exact HK.out _ _ _ rfl h4) ((go_at_call 53; refine KC1.out.mono ?_; rintro e w4 ⟨gd, c, rfl, R4, G4, C4, b4⟩; have L4 := (LA.out _ _).next b4; have h4 := HS.out _ L4; have d3 := cells_of L4.res 0; have d4 := cells_of L4.res 1; have g3 := froz_of L4.res))
    have hg2 : gd ≠ w.heap.size + 2 := by
      have h1 : ((w1.alloc (.cells #[.string (bs r.p), .int .i64 r.id, .int .i64 r.kind, .int .i64 r.mode, .int .i64 0, .int .i64 0, .int .i64 0, .string ⟨#[]⟩, .string ⟨#[]⟩, .string ⟨#[]⟩, .slice none 0 0, .int .i64 r.size, .bool r.made] 40)).alloc (.cells #[.slice ad i cap, .slice (some ⟨w1.heap.size, 0, none⟩) 1 1, .slice (lowAt ad cap i) (n - i) (cap - i)] 24)).heap.size ≤ gd := G4
      rw [size_box, size_box] at h1
      omega
    have hg3 : w.heap.size ≤ gd := by
      have h1 : ((w1.alloc (.cells #[.string (bs r.p), .int .i64 r.id, .int .i64 r.kind, .int .i64 r.mode, .int .i64 0, .int .i64 0, .int .i64 0, .string ⟨#[]⟩, .string ⟨#[]⟩, .string ⟨#[]⟩, .slice none 0 0, .int .i64 r.size, .bool r.made] 40)).alloc (.cells #[.slice ad i cap, .slice (some ⟨w1.heap.size, 0, none⟩) 1 1, .slice (lowAt ad cap i) (n - i) (cap - i)] 24)).heap.size ≤ gd := G4
      rw [size_box, size_box] at h1
      omega
    have e2 := two_set L4.res (.slice (some ⟨gd, 0, none⟩) M.length c) (.int .i64 nx)
    have R5 := R4.far (gd := gd) rfl (w.heap.size + 2) hg2 (.slice (some ⟨gd, 0, none⟩) M.length c) (.int .i64 nx)
    have b5 : Below w.heap.size w ((w4.setCell ⟨w.heap.size + 2, 0, none⟩ (.slice (some ⟨gd, 0, none⟩) M.length c)).setCell ⟨w.heap.size + 2, 1, none⟩ (.int .i64 nx)) := (L4.bel.setCell (by show _ ≤ w.heap.size + 2; omega) _).setCell (by show _ ≤ w.heap.size + 2; omega) _
    go_wp2_with fail
    exact bodyPost_ret (results_cell_row rfl _ _ (w.heap.size + 2) 26 _ (0, 0) _ rfl e2 Tryd.underlying26 rfl (by kernel_rfl)) rfl ⟨gd, c, rfl, R5, hg3, C4, b5⟩
  | true =>
    simp only [if_true] at hF
    rw [← hF] at wi
    have hij : i < j := by omega
    have HF : Hid ((i : Int) + 1 = (j : Int)) := (by show _ = _; omega)
    clear hF
    go_enter Tryd.func48, Tryd.ntmps48
    go_upto_region 5 with (go_at_call 51; refine (KQ.out _ (hb3.out _ _ _)).mono ?_; rintro e w1 ⟨rfl, b1⟩; have H1 : Hid (Ly w w1 _ _ _) := H0.next b1)
    rw [HF.out]
    clear HF
    have L0 := H1.out
    have c0 := cells_of L0.tre 0
    have c1 := cells_of L0.tre 1
    have c2 := cells_of L0.row
    have c3 := cells_of L0.res 0
    have c4 := cells_of L0.res 1
    have f3 := froz_of L0.res
    have q1 := fun W => run_lowAt W ad n cap j hj
    have q2 := fun W => run_highAt W ad n cap i (by omega)
    have hj1 : (0 : Int) ≤ (i : Int) := by omega
    have hj2 : (j : Int) ≤ (n : Int) := by omega
    have hj3 : (i : Int) ≤ (cap : Int) := by omega
    have hj4 : (0 : Int) ≤ (j : Int) := by omega
    clear wi
    have lt0 : w.heap.size < w1.heap.size := by have := L0.lt; omega
    have lt1 : w.heap.size + 1 < w1.heap.size := by have := L0.lt; omega
    have lt2 : w.heap.size + 2 < w1.heap.size := by have := L0.lt; omega
    have LA : Hid (∀ A B, Ly w ((w1.alloc A).alloc B).drew _ _ _) := fun A B => ((L0.next (below_box w1 A)).next (below_box _ B)).drew
    have KC1 : Hid (Calls Tryd.prog 53 #[.slice (some ⟨w1.heap.size + 1, 0, none⟩) 3 3] ((w1.alloc (.cells #[.string (bs r.p), .int .i64 r.id, .int .i64 r.kind, .int .i64 r.mode, .int .i64 0, .int .i64 0, .int .i64 0, .string ⟨#[]⟩, .string ⟨#[]⟩, .string ⟨#[]⟩, .slice none 0 0, .int .i64 r.size, .bool r.made] 40)).alloc (.cells #[.slice ad i cap, .slice (some ⟨w1.heap.size, 0, none⟩) 1 1, .slice (lowAt ad cap j) (n - j) (cap - j)] 24)).drew fun e w' => ∃ gd c, e = .returned (.slice (some ⟨gd, 0, none⟩) M.length c) ∧ Rs w' (some ⟨gd, 0, none⟩) M ∧ (((w1.alloc (.cells #[.string (bs r.p), .int .i64 r.id, .int .i64 r.kind, .int .i64 r.mode, .int .i64 0, .int .i64 0, .int .i64 0, .string ⟨#[]⟩, .string ⟨#[]⟩, .string ⟨#[]⟩, .slice none 0 0, .int .i64 r.size, .bool r.made] 40)).alloc (.cells #[.slice ad i cap, .slice (some ⟨w1.heap.size, 0, none⟩) 1 1, .slice (lowAt ad cap j) (n - j) (cap - j)] 24)).drew).heap.size ≤ gd ∧ M.length ≤ c ∧ Below (((w1.alloc (.cells #[.string (bs r.p), .int .i64 r.id, .int .i64 r.kind, .int .i64 r.mode, .int .i64 0, .int .i64 0, .int .i64 0, .string ⟨#[]⟩, .string ⟨#[]⟩, .string ⟨#[]⟩, .slice none 0 0, .int .i64 r.size, .bool r.made] 40)).alloc (.cells #[.slice ad i cap, .slice (some ⟨w1.heap.size, 0, none⟩) 1 1, .slice (lowAt ad cap j) (n - j) (cap - j)] 24)).drew).heap.size ((w1.alloc (.cells #[.string (bs r.p), .int .i64 r.id, .int .i64 r.kind, .int .i64 r.mode, .int .i64 0, .int .i64 0, .int .i64 0, .string ⟨#[]⟩, .string ⟨#[]⟩, .string ⟨#[]⟩, .slice none 0 0, .int .i64 r.size, .bool r.made] 40)).alloc (.cells #[.slice ad i cap, .slice (some ⟨w1.heap.size, 0, none⟩) 1 1, .slice (lowAt ad cap j) (n - j) (cap - j)] 24)).drew w') := by
      have hh := two_new' w1 (.cells #[.string (bs r.p), .int .i64 r.id, .int .i64 r.kind, .int .i64 r.mode, .int .i64 0, .int .i64 0, .int .i64 0, .string ⟨#[]⟩, .string ⟨#[]⟩, .string ⟨#[]⟩, .slice none 0 0, .int .i64 r.size, .bool r.made] 40) (.cells #[.slice ad i cap, .slice (some ⟨w1.heap.size, 0, none⟩) 1 1, .slice (lowAt ad cap j) (n - j) (cap - j)] 24)
      have sz : (((w1.alloc (.cells #[.string (bs r.p), .int .i64 r.id, .int .i64 r.kind, .int .i64 r.mode, .int .i64 0, .int .i64 0, .int .i64 0, .string ⟨#[]⟩, .string ⟨#[]⟩, .string ⟨#[]⟩, .slice none 0 0, .int .i64 r.size, .bool r.made] 40)).alloc (.cells #[.slice ad i cap, .slice (some ⟨w1.heap.size, 0, none⟩) 1 1, .slice (lowAt ad cap j) (n - j) (cap - j)] 24)).drew).heap.size = w1.heap.size + 2 := by
        show ((w1.alloc _).alloc _).heap.size = _
        rw [size_box, size_box]
      refine KC.out _ _ w1.heap.size (LA.out _ _).bel (by omega) (cells_of hh 0) (cells_of hh 1) (cells_of hh 2) (by omega) ?_
      have hr0 := kept_first (Below.refl (((w1.alloc (.cells #[.string (bs r.p), .int .i64 r.id, .int .i64 r.kind, .int .i64 r.mode, .int .i64 0, .int .i64 0, .int .i64 0, .string ⟨#[]⟩, .string ⟨#[]⟩, .string ⟨#[]⟩, .slice none 0 0, .int .i64 r.size, .bool r.made] 40)).alloc (.cells #[.slice ad i cap, .slice (some ⟨w1.heap.size, 0, none⟩) 1 1, .slice (lowAt ad cap j) (n - j) (cap - j)] 24))).heap.size ((w1.alloc (.cells #[.string (bs r.p), .int .i64 r.id, .int .i64 r.kind, .int .i64 r.mode, .int .i64 0, .int .i64 0, .int .i64 0, .string ⟨#[]⟩, .string ⟨#[]⟩, .string ⟨#[]⟩, .slice none 0 0, .int .i64 r.size, .bool r.made] 40)).alloc (.cells #[.slice ad i cap, .slice (some ⟨w1.heap.size, 0, none⟩) 1 1, .slice (lowAt ad cap j) (n - j) (cap - j)] 24)))
      intro k v hv
      rw [Nat.zero_add]
      have := cells_of hr0 k
      refine Eq.trans (show _ = _ from this) ?_
      rw [HCS.out] at hv
      simpa using hv
    clear H1 H0 b1
    have HS : Hid (∀ W, Ly w W #[.slice ad n cap, .int .i64 nx] #[.string (bs r.p), .int .i64 r.id, .int .i64 r.kind, .int .i64 r.mode, .int .i64 0, .int .i64 0, .int .i64 0, .string ⟨#[]⟩, .string ⟨#[]⟩, .string ⟨#[]⟩, .slice none 0 0, .int .i64 r.size, .bool r.made] #[.slice none 0 0, .int .i64 0] → W.cell? ⟨w.heap.size, 0, none⟩ = some (.slice ad n cap) ∧ W.cell? ⟨w.heap.size, 1, none⟩ = some (.int .i64 nx) ∧ (∀ k, W.cell? ⟨w.heap.size + 1, k, none⟩ = (#[.string (bs r.p), .int .i64 r.id, .int .i64 r.kind, .int .i64 r.mode, .int .i64 0, .int .i64 0, .int .i64 0, .string ⟨#[]⟩, .string ⟨#[]⟩, .string ⟨#[]⟩, .slice none 0 0, .int .i64 r.size, .bool r.made] : Array Value)[k]?)) := fun W h => ⟨cells_of h.tre 0, cells_of h.tre 1, cells_of h.row⟩
    have HK : Hid (∀ W p v, p.block = w.heap.size + 2 → (W.cell? ⟨w.heap.size, 0, none⟩ = some (.slice ad n cap) ∧ W.cell? ⟨w.heap.size, 1, none⟩ = some (.int .i64 nx) ∧ (∀ k, W.cell? ⟨w.heap.size + 1, k, none⟩ = (#[.string (bs r.p), .int .i64 r.id, .int .i64 r.kind, .int .i64 r.mode, .int .i64 0, .int .i64 0, .int .i64 0, .string ⟨#[]⟩, .string ⟨#[]⟩, .string ⟨#[]⟩, .slice none 0 0, .int .i64 r.size, .bool r.made] : Array Value)[k]?)) → (fun W => W.cell? ⟨w.heap.size, 0, none⟩ = some (.slice ad n cap) ∧ W.cell? ⟨w.heap.size, 1, none⟩ = some (.int .i64 nx) ∧ (∀ k, W.cell? ⟨w.heap.size + 1, k, none⟩ = (#[.string (bs r.p), .int .i64 r.id, .int .i64 r.kind, .int .i64 r.mode, .int .i64 0, .int .i64 0, .int .i64 0, .string ⟨#[]⟩, .string ⟨#[]⟩, .string ⟨#[]⟩, .slice none 0 0, .int .i64 r.size, .bool r.made] : Array Value)[k]?)) (World.setCell W p v)) := fun W p v hp h => ⟨by rw [World.cell?_setCell_far _ _ _ _ (by rw [hp]; show _ ≠ w.heap.size; omega)]; exact h.1, by rw [World.cell?_setCell_far _ _ _ _ (by rw [hp]; show _ ≠ w.heap.size; omega)]; exact h.2.1, fun k => by rw [World.cell?_setCell_far _ _ _ _ (by rw [hp]; show _ ≠ w.heap.size + 1; omega)]; exact h.2.2 k⟩
    have h3 := HS.out _ L0.drew
    have hA : Hid (∀ A, (fun W => W.cell? ⟨w.heap.size, 0, none⟩ = some (.slice ad n cap) ∧ W.cell? ⟨w.heap.size, 1, none⟩ = some (.int .i64 nx) ∧ (∀ k, W.cell? ⟨w.heap.size + 1, k, none⟩ = (#[.string (bs r.p), .int .i64 r.id, .int .i64 r.kind, .int .i64 r.mode, .int .i64 0, .int .i64 0, .int .i64 0, .string ⟨#[]⟩, .string ⟨#[]⟩, .string ⟨#[]⟩, .slice none 0 0, .int .i64 r.size, .bool r.made] : Array Value)[k]?)) (w1.alloc A).drew) := fun A => HS.out _ (L0.next (below_box w1 A)).drew
    have hB : Hid (∀ A B, (fun W => W.cell? ⟨w.heap.size, 0, none⟩ = some (.slice ad n cap) ∧ W.cell? ⟨w.heap.size, 1, none⟩ = some (.int .i64 nx) ∧ (∀ k, W.cell? ⟨w.heap.size + 1, k, none⟩ = (#[.string (bs r.p), .int .i64 r.id, .int .i64 r.kind, .int .i64 r.mode, .int .i64 0, .int .i64 0, .int .i64 0, .string ⟨#[]⟩, .string ⟨#[]⟩, .string ⟨#[]⟩, .slice none 0 0, .int .i64 r.size, .bool r.made] : Array Value)[k]?)) ((w1.alloc A).alloc B).drew) := fun A B => HS.out _ (LA.out A B)
    clear c0 c1 c2 c3 c4 f3 L0
    go_region_held3 (fun W => W.cell? ⟨w.heap.size, 0, none⟩ = some (.slice ad n cap) ∧ W.cell? ⟨w.heap.size, 1, none⟩ = some (.int .i64 nx) ∧ (∀ k, W.cell? ⟨w.heap.size + 1, k, none⟩ = (#[.string (bs r.p), .int .i64 r.id, .int .i64 r.kind, .int .i64 r.mode, .int .i64 0, .int .i64 0, .int .i64 0, .string ⟨#[]⟩, .string ⟨#[]⟩, .string ⟨#[]⟩, .slice none 0 0, .int .i64 r.size, .bool r.made] : Array Value)[k]?)) (first | assumption | exact h3 | exact hA.out _ | exact hB.out _ _ | exact HK.out _ _ _ rfl (HK.out _ _ _ rfl h4) | exact HK.out _ _ _ rfl h4) ((go_at_call 53; refine KC1.out.mono ?_; rintro e w4 ⟨gd, c, rfl, R4, G4, C4, b4⟩; have L4 := (LA.out _ _).next b4; have h4 := HS.out _ L4; have d3 := cells_of L4.res 0; have d4 := cells_of L4.res 1; have g3 := froz_of L4.res))
    have hg2 : gd ≠ w.heap.size + 2 := by
      have h1 : ((w1.alloc (.cells #[.string (bs r.p), .int .i64 r.id, .int .i64 r.kind, .int .i64 r.mode, .int .i64 0, .int .i64 0, .int .i64 0, .string ⟨#[]⟩, .string ⟨#[]⟩, .string ⟨#[]⟩, .slice none 0 0, .int .i64 r.size, .bool r.made] 40)).alloc (.cells #[.slice ad i cap, .slice (some ⟨w1.heap.size, 0, none⟩) 1 1, .slice (lowAt ad cap j) (n - j) (cap - j)] 24)).heap.size ≤ gd := G4
      rw [size_box, size_box] at h1
      omega
    have hg3 : w.heap.size ≤ gd := by
      have h1 : ((w1.alloc (.cells #[.string (bs r.p), .int .i64 r.id, .int .i64 r.kind, .int .i64 r.mode, .int .i64 0, .int .i64 0, .int .i64 0, .string ⟨#[]⟩, .string ⟨#[]⟩, .string ⟨#[]⟩, .slice none 0 0, .int .i64 r.size, .bool r.made] 40)).alloc (.cells #[.slice ad i cap, .slice (some ⟨w1.heap.size, 0, none⟩) 1 1, .slice (lowAt ad cap j) (n - j) (cap - j)] 24)).heap.size ≤ gd := G4
      rw [size_box, size_box] at h1
      omega
    have e2 := two_set L4.res (.slice (some ⟨gd, 0, none⟩) M.length c) (.int .i64 nx)
    have R5 := R4.far (gd := gd) rfl (w.heap.size + 2) hg2 (.slice (some ⟨gd, 0, none⟩) M.length c) (.int .i64 nx)
    have b5 : Below w.heap.size w ((w4.setCell ⟨w.heap.size + 2, 0, none⟩ (.slice (some ⟨gd, 0, none⟩) M.length c)).setCell ⟨w.heap.size + 2, 1, none⟩ (.int .i64 nx)) := (L4.bel.setCell (by show _ ≤ w.heap.size + 2; omega) _).setCell (by show _ ≤ w.heap.size + 2; omega) _
    go_wp2_with fail
    exact bodyPost_ret (results_cell_row rfl _ _ (w.heap.size + 2) 26 _ (0, 0) _ rfl e2 Tryd.underlying26 rfl (by kernel_rfl)) rfl ⟨gd, c, rfl, R5, hg3, C4, b5⟩

theorem lay_w (ad : Option Addr) (cap : Nat) (nx : Int) (L : List Rw) (r : Rw) (w : World) (hs : Srt L) (hr : Rs w ad L) (hl : L.length ≤ 1000000) (hcap : L.length ≤ cap) (hnil : ad = none → cap = 0) (hp : ∀ r ∈ L, r.p.length ≤ 4611686018427387903) (hsl : r.p.length ≤ 4611686018427387903) :
    Calls Tryd.prog 48 #[.agg #[.slice ad L.length cap, .int .i64 nx], .agg r.cs.toArray] w fun e w' => ∃ gd c, e = .returned (.agg #[.slice (some ⟨gd, 0, none⟩) (putL L r).length c, .int .i64 nx]) ∧ Rs w' (some ⟨gd, 0, none⟩) (putL L r) ∧ w.heap.size ≤ gd ∧ (putL L r).length ≤ c ∧ Below w.heap.size w w' := by
  have hix := ix_le L r.p
  obtain ⟨j, hj, hj2⟩ : ∃ j, j = (if fd L r.p then ix L r.p + 1 else ix L r.p) ∧ j ≤ L.length := by
    refine ⟨_, rfl, ?_⟩
    cases hf : fd L r.p with
    | false => simpa using hix
    | true =>
      obtain ⟨q, hq, _⟩ := fd_some hf
      have := (List.getElem?_eq_some_iff.1 hq).1
      simp; omega
  have hP : putL L r = L.take (ix L r.p) ++ [r] ++ L.drop j := by
    unfold putL
    rw [hj]
    cases fd L r.p <;> simp
  have hlt : (L.take (ix L r.p)).length = ix L r.p := by rw [List.length_take]; omega
  have hld : (L.drop j).length = L.length - j := List.length_drop
  refine lay_core (fd L r.p) ad cap L.length (ix L r.p) j nx r w hj hj2 hl hcap (fun W hb => find_w ad cap nx L r.p W hs (hr.below hb) hl hp hsl) (putL L r) ?_
  intro W g gr hb hg d1 d2 d3 hgr hrow
  have hrW := hr.below hb
  have := concat_w g ad (some ⟨gr, 0, none⟩) (lowAt ad cap j) cap 1 (cap - j) (L.take (ix L r.p)) [r] (L.drop j) W (by rw [hlt]; exact d1) d2 (by rw [hld]; exact d3) (hrW.take _) (.inr ⟨gr, 0, rfl, hgr, by rw [flat_cons, flat_nil, List.append_nil]; exact hrow⟩) (hrW.drop cap j hcap) hnil (fun h => by cases h) (fun h => by have := hnil (low_none h); omega) (by simp; omega) (by rw [hlt, hld]; simp; omega)
  rw [hP]
  exact this

end Go.Proofs.YtojnniacmmcddaaDoor
