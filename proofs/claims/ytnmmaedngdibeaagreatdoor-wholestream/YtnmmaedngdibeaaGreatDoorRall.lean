/-
  Texts in one: Qm, Qn, Qp, Qo, Qs, Qt, Qu, Qv.
-/
import Derived.Test.YtnmmaedngdibeaaGreatDoorQall
import Derived.Deep.MidRow
import Derived.Deep.LoopGhost
import Derived.Laws.StructEq
namespace Go.Proofs.YtnmmaedngdibeaaGreatDoor
open Go.RowKit
set_option linter.unusedVariables false
set_option linter.unusedSimpArgs false

abbrev ThE := Pu.Th E.En
abbrev AcE := Pu.Ac E.En
def strB (zs : List Int) : ByteArray := ⟨(U8 zs).toArray⟩
def thCells (t : ThE) : List Value := t.e.cells.toList ++ [.string (strB t.d), .bool t.wh, .int .i64 (t.p : Int)]
theorem thCells_len (t : ThE) : (thCells t).length = 13 := by simp [thCells, E.En.cells]
theorem ths_len (L : List ThE) : (L.flatMap thCells).length = L.length * 13 := by
  induction L with
  | nil => rfl
  | cons a r ih => rw [List.flatMap_cons, List.length_append, ih, thCells_len, List.length_cons]; omega
theorem th_one (t : ThE) : ∀ u ∈ thCells t, u.oneCell' = true := by
  intro u hu
  simp only [thCells, E.En.cells, List.mem_append, List.mem_cons, List.not_mem_nil, or_false] at hu
  rcases hu with (rfl | rfl | rfl | rfl | rfl | rfl | rfl | rfl | rfl | rfl) | rfl | rfl | rfl <;> rfl
theorem infoT : (Tryz.prog.info? 35).map (fun i => (i.zero, i.size, i.bytes)) = some (some (.agg #[.string ⟨#[]⟩, .string ⟨#[]⟩, .int .i64 0, .int .i64 0, .int .i64 0, .int .i64 0, .int .i64 0, .int .i64 0, .string ⟨#[]⟩, .string ⟨#[]⟩, .string ⟨#[]⟩, .bool false, .int .i64 0]), 13, 144) := by kernel_rfl

/-- the things, in memory -/
def ThS (W : World) (v : Value) (ts : List ThE) : Prop := W.ownsRow 0 35 13 v ts.length (ts.flatMap thCells)

/-- a cell of a row of one's own is written -/
theorem own_put {W : World} {B : Nat} {e : TypeId} {sz n cap G : Nat} {xs : List Value} (h : W.ownsRow B e sz (.slice (some ⟨G, 0, none⟩) n cap) n xs) (j : Nat) (u : Value) :
    (W.setCell ⟨G, j, none⟩ u).ownsRow B e sz (.slice (some ⟨G, 0, none⟩) n cap) n (xs.set j u) := by
  refine ⟨by rw [List.length_set]; exact h.1, .inr ?_⟩
  rcases h.2 with ⟨e1, e2⟩ | ⟨g, cp, cur, e1, e2, e3, e4, e5, e6, e7⟩
  · cases e1
  · cases e1
    refine ⟨G, cap, _, rfl, e2, Lib.heap_setCell_same e3 u, e4, e5, by simpa using e6, ?_⟩
    rw [← e7, Array.toList_setIfInBounds, List.take_set]

/-- what is gathered, in a block -/
structure Ga (w0 W : World) (ga : Nat) (tv0 tv : Value) (a : AcE) : Prop where
  box : W.heap[ga]? = some (.cells #[tv, .bool a.dn, .int .i64 a.code, .int .i64 a.place] 27 (0, 0))
  row : ThS W tv a.ts
  ne : tv.ownBlock ≠ some ga
  mv : Mv (fun k => k = ga ∨ tv0.ownBlock = some k) w0 W
  old : tv.ownBlock = tv0.ownBlock ∨ ∃ k, tv.ownBlock = some k ∧ w0.heap.size ≤ k
  lt : ga < w0.heap.size

theorem Ga.start {w : World} {ga : Nat} {tv : Value} {a : AcE} (hb : w.heap[ga]? = some (.cells #[tv, .bool a.dn, .int .i64 a.code, .int .i64 a.place] 27 (0, 0))) (hr : ThS w tv a.ts) (hn : tv.ownBlock ≠ some ga) : Ga w w ga tv tv a :=
  ⟨hb, hr, hn, Mv.refl _ _, .inl rfl, lt_of_heap hb⟩

section
variable {w0 W W2 : World} {ga : Nat} {tv0 tv v2 : Value} {a b : AcE}

theorem Ga.sz (h : Ga w0 W ga tv0 tv a) : w0.heap.size ≤ W.heap.size := h.mv.size
/-- blocks that are new don't matter -/
theorem Ga.below (h : Ga w0 W ga tv0 tv a) (k : Below W.heap.size W W2) : Ga w0 W2 ga tv0 tv a :=
  ⟨(k.block ga (Nat.lt_of_lt_of_le h.lt h.sz)).trans h.box, own_moved h.row fun x hx => k.block x (own_lt h.row hx).1, h.ne, h.mv.trans (Mv.of_below (O := fun k => k = ga ∨ tv0.ownBlock = some k) k) (fun x hx => .inl hx), h.old, h.lt⟩
/-- the block is written -/
theorem Ga.put (h : Ga w0 W ga tv0 tv a) (i : Nat) (u : Value) (hc : (#[tv, .bool a.dn, .int .i64 a.code, .int .i64 a.place] : Array Value).setIfInBounds i u = #[tv, .bool b.dn, .int .i64 b.code, .int .i64 b.place]) (ht : b.ts = a.ts) : Ga w0 (W.setCell ⟨ga, i, none⟩ u) ga tv0 tv b := by
  have hb := Lib.heap_setCell_same (i := i) h.box u
  rw [hc] at hb
  refine ⟨hb, ?_, h.ne, ?_, h.old, h.lt⟩
  · rw [ht]
    exact own_moved h.row fun x hx => by
      have : x ≠ ga := fun e => h.ne (by rw [hx, e])
      simp [World.setCell, Array.getElem?_modify, Ne.symm this]
  · refine ⟨h.mv.os, h.mv.tape, h.mv.output, by simpa [World.setCell] using h.mv.size, fun k hk hn => ?_⟩
    have : k ≠ ga := fun e => hn (.inl e)
    rw [← h.mv.block k hk hn]
    simp [World.setCell, Array.getElem?_modify, Ne.symm this]
/-- a row that grew is laid into it -/
theorem Ga.grow (h : Ga w0 W ga tv0 tv a) (o : ThS W2 v2 b.ts) (gr : W.grownBy W2 tv.ownBlock) (at2 : v2.ownBlock = tv.ownBlock ∨ v2.ownBlock = some W.heap.size) (h1 : b.dn = a.dn) (h2 : b.code = a.code) (h3 : b.place = a.place) : Ga w0 (W2.setCell ⟨ga, 0, none⟩ v2) ga tv0 v2 b := by
  have hlt : ga < W.heap.size := Nat.lt_of_lt_of_le h.lt h.sz
  have hbx : W2.heap[ga]? = some (.cells #[tv, .bool a.dn, .int .i64 a.code, .int .i64 a.place] 27 (0, 0)) := (gr.block ga hlt (fun e => h.ne e.symm)).trans h.box
  have hb := Lib.heap_setCell_same (i := 0) hbx v2
  have hne : v2.ownBlock ≠ some ga := by
    rcases at2 with e | e
    · rw [e]; exact h.ne
    · rw [e]; intro q; cases q; omega
  refine ⟨by rw [h1, h2, h3]; exact hb, ?_, hne, ?_, ?_, h.lt⟩
  · exact own_moved o fun x hx => by
      have : x ≠ ga := fun e => hne (by rw [hx, e])
      simp [World.setCell, Array.getElem?_modify, Ne.symm this]
  · refine ⟨gr.os.trans h.mv.os, gr.tape.trans h.mv.tape, gr.output.trans h.mv.output, by have := h.mv.size; have := gr.size; simpa [World.setCell] using Nat.le_trans h.mv.size gr.size, fun k hk hn => ?_⟩
    have h4 : k ≠ ga := fun e => hn (.inl e)
    have h5 : tv.ownBlock ≠ some k := by
      rcases h.old with e | ⟨q, e, hq⟩
      · rw [e]; exact fun e => hn (.inr e)
      · rw [e]; intro e; cases e; omega
    rw [← h.mv.block k hk hn, ← gr.block k (Nat.lt_of_lt_of_le hk h.sz) (fun e => h5 e.symm)]
    simp [World.setCell, Array.getElem?_modify, Ne.symm h4]
  · rcases at2 with e | e
    · rw [e]; exact h.old
    · right; exact ⟨_, e, h.sz⟩
/-- two cells of the last thing are written -/
theorem Ga.two (h : Ga w0 W ga tv0 tv a) {G n cap : Nat} (hv : tv = .slice (some ⟨G, 0, none⟩) n cap) (i j : Nat) (x y : Value) (ht : (((a.ts.flatMap thCells).set i x).set j y) = b.ts.flatMap thCells) (hl : b.ts.length = a.ts.length) (h1 : b.dn = a.dn) (h2 : b.code = a.code) (h3 : b.place = a.place) :
    Ga w0 ((W.setCell ⟨G, i, none⟩ x).setCell ⟨G, j, none⟩ y) ga tv0 tv b := by
  have hG : tv.ownBlock = some G := by rw [hv]; rfl
  have hne : G ≠ ga := fun e => h.ne (by rw [hG, e])
  have hnn : n = a.ts.length := by
    obtain ⟨ta, tc, e, _, _, _⟩ := own_sl h.row
    rw [hv] at e
    cases e
    rfl
  refine ⟨?_, ?_, h.ne, ?_, h.old, h.lt⟩
  · rw [h1, h2, h3, ← h.box]
    simp [World.setCell, Array.getElem?_modify, hne]
  · have r := h.row
    unfold ThS at r ⊢
    rw [hv, ← hnn] at r
    have r2 := own_put (own_put r i x) j y
    rw [ht, hnn, ← hl] at r2
    rw [hv, hnn, ← hl]
    exact r2
  · refine ⟨h.mv.os, h.mv.tape, h.mv.output, by simpa [World.setCell] using h.mv.size, fun k hk hn => ?_⟩
    have h4 : k ≠ G := fun e => by
      subst e
      rcases h.old with e | ⟨q, e, hq⟩
      · exact hn (.inr (by rw [← e, hG]))
      · rw [hG] at e; cases e; omega
    rw [← h.mv.block k hk hn]
    simp [World.setCell, Array.getElem?_modify, Ne.symm h4]
end

/-- the last thing's cells -/
theorem last_cells {l : List ThE} {t : ThE} {W : World} {G cap n : Nat} {e : TypeId} (h : W.ownsRow 0 e 13 (.slice (some ⟨G, 0, none⟩) n cap) n ((l ++ [t]).flatMap thCells)) :
    ∀ j u, (thCells t)[j]? = some u → W.cell? ⟨G, l.length * 13 + j, none⟩ = some u := by
  intro j u hj
  have hc := h.cells (g := G) rfl (l.length * 13 + j) u (by
    rw [List.flatMap_append, List.getElem?_append_right (by rw [ths_len]; omega), ths_len]
    simpa using hj)
  rw [add_at, Nat.zero_add] at hc
  exact hc
theorem set_right (xs ys : List Value) (i n : Nat) (u : Value) (h : n = xs.length + i) : (xs ++ ys).set n u = xs ++ ys.set i u := by
  rw [h, List.set_append_right _ _ (by omega), Nat.add_sub_cancel_left]
/-- ... when two of them are written -/
theorem last_two (l : List ThE) (t : ThE) (i j : Nat) (x y : Value) {u : ThE} (h : ((thCells t).set i x).set j y = thCells u) :
    ((((l ++ [t]).flatMap thCells).set (l.length * 13 + i) x).set (l.length * 13 + j) y) = (l ++ [u]).flatMap thCells := by
  simp only [List.flatMap_append, List.flatMap_cons, List.flatMap_nil, List.append_nil]
  rw [set_right _ _ i _ x (by rw [ths_len]), set_right _ _ j _ y (by rw [ths_len]), h]
end Go.Proofs.YtnmmaedngdibeaaGreatDoor

namespace Go.Proofs.YtnmmaedngdibeaaGreatDoor
open Go.RowKit
set_option linter.unusedVariables false
set_option linter.unusedSimpArgs false

/-- b[lo:hi] -/
theorem run_range (w : World) (b o n cap c d : Nat) (h : c ≤ d) (hd : d ≤ cap) : (Instr.sliceAt 22 (.slice (some ⟨b, o, none⟩) n cap) (some (.int .i64 (c : Int))) (some (.int .i64 (d : Int))) none).run Tryz.prog w = .ok (.slice (X.lowAt b o cap c) (d - c) (cap - c)) w := by
  by_cases q : c < cap
  · rw [X.run_mid w b o n cap c d h hd q]
    have : ¬ cap = c := by omega
    simp [X.lowAt, this]
  · obtain rfl : cap = c := by omega
    obtain rfl : d = cap := by omega
    rw [run_sliceAt_slice w 22 _ _ _ _ (by rw [X.elem36]; exact Tryz.underlying22)]
    have hi := X.info5
    cases hq : Tryz.prog.info? 5 with
    | none => simp [hq] at hi
    | some i =>
      have hs : i.size = 1 := by simpa [hq] using hi
      have hb : (Instr.sliceBound (.int .i64 (d : Int)) d .sliceAcap).run Tryz.prog w = .ok d w := by
        have := run_sliceBound (P := Tryz.prog) w .i64 (d : Int) d .sliceAcap (by omega) (by omega)
        simpa using this
      have hb2 : (Instr.sliceBound (.int .i64 (d : Int)) d .sliceB).run Tryz.prog w = .ok d w := by
        have := run_sliceBound (P := Tryz.prog) w .i64 (d : Int) d .sliceB (by omega) (by omega)
        simpa using this
      simp [Instr.slice, run_underlying Tryz.underlying22, Instr.sliceBounds, sizeOf, typeInfo, hq, hs, hb, hb2, X.lowAt, Addr.add]
theorem run_range_nil (w : World) : (Instr.sliceAt 22 (.slice none 0 0) (some (.int .i64 0)) (some (.int .i64 0)) none).run Tryz.prog w = .ok (.slice none 0 0) w := by
  rw [run_sliceAt_slice w 22 _ _ _ _ (by rw [X.elem36]; exact Tryz.underlying22)]
  have hi := X.info5
  cases hq : Tryz.prog.info? 5 with
  | none => simp [hq] at hi
  | some i =>
    have hs : i.size = 1 := by simpa [hq] using hi
    have hb : (Instr.sliceBound (.int .i64 0) 0 .sliceAcap).run Tryz.prog w = .ok 0 w := by
      have := run_sliceBound (P := Tryz.prog) w .i64 0 0 .sliceAcap (by omega) (by omega)
      simpa using this
    have hb2 : (Instr.sliceBound (.int .i64 0) 0 .sliceB).run Tryz.prog w = .ok 0 w := by
      have := run_sliceBound (P := Tryz.prog) w .i64 0 0 .sliceB (by omega) (by omega)
      simpa using this
    simp [Instr.slice, run_underlying Tryz.underlying22, Instr.sliceBounds, sizeOf, typeInfo, hq, hs, hb, hb2]

/-- no bytes are fed -/
theorem feed_zero (w : World) (g : Nat) (ad : Option Addr) (c : Nat) : Calls Tryz.prog 14 #[.pointer (some ⟨g, 0, none⟩), .slice ad 0 c] w fun e w' => e = .returned (.slice none 0 0) ∧ w' = w := by
  go_enter Tryz.func14, Tryz.ntmps14
  go_wp2_with fail
  refine wp_loop_rounds 1 ?_
  rw [rounds_succ]
  go_wp2
  go_ret
  exact ⟨rfl, rfl⟩

variable {F0 : Pu.Fns E.Hd E.En Rec ByteArray}
theorem settle_len : ∀ (f : Nat) (s : PsR), (Pu.settle F0 f s).2.length ≤ f
  | 0, s => by simp [Pu.settle]
  | f + 1, s => by
    have h1 := turn_len (F0 := F0) s
    have h2 := settle_len f (Pu.turn F0 s).1
    unfold Pu.settle
    split
    · simp only [List.length_append]; omega
    · simp
theorem rok_settle (hF : Fall F0) : ∀ (f : Nat) (s : PsR), Rok s → Rok (Pu.settle F0 f s).1
  | 0, s, h => by simpa [Pu.settle] using h
  | f + 1, s, h => by
    unfold Pu.settle
    split
    · exact rok_settle hF f _ (h.turn hF (by first | assumption | (rename_i q; exact q.1)))
    · exact h
theorem feed_all (hF : Fall F0) : ∀ (f : Nat) (s : PsR) (b : List Int), Pu.Fit s → Rok s → H.AllB b →
    (Pu.feed F0 f s b).2.length ≤ 4 * b.length ∧ (Pu.feed F0 f s b).1.rd ≤ s.rd + b.length ∧ Rok (Pu.feed F0 f s b).1 ∧ Pu.Fit (Pu.feed F0 f s b).1
  | 0, s, b, hf, hr, hb => by simp [Pu.feed]; exact ⟨hr, hf⟩
  | f + 1, s, b, hf, hr, hb => by
    unfold Pu.feed
    split
    · exact ⟨by simp, by simp, hr, hf⟩
    · rename_i hn
      have hne : b ≠ [] := fun e => hn (.inl e)
      have h4 : s.pt ≠ 4 := fun e => hn (.inr e)
      have hlf : s.lf ≠ 0 := hf.resolve_right h4
      have hbl := List.length_pos_iff.2 hne
      have h1 := take_len s (b.take (min s.lf b.length))
      have h2 := settle_len (F0 := F0) 3 (Pu.take (E := E.En) s (b.take (min s.lf b.length))).1
      have hA : H.AllB (b.take (min s.lf b.length)) := fun z hz => hb z (List.mem_of_mem_take hz)
      have hR1 := hr.take (b.take (min s.lf b.length)) hA (by rw [List.length_take]; omega)
      have hR2 := rok_settle hF 3 _ hR1
      have hF2 := Pu.settle_fit F0 3 (Pu.take (E := E.En) s (b.take (min s.lf b.length))).1 (Pu.rank_le _)
      have hrd := settle_rd hF 3 (Pu.take (E := E.En) s (b.take (min s.lf b.length))).1
      have htr := take_rd s (b.take (min s.lf b.length))
      obtain ⟨k1, k2, k3, k4⟩ := feed_all hF f _ (b.drop (min s.lf b.length)) hF2 hR2 (fun z hz => hb z (List.mem_of_mem_drop hz))
      rw [List.length_drop] at k1 k2
      rw [List.length_take] at htr
      refine ⟨?_, ?_, k3, k4⟩
      · simp only [List.length_append]; omega
      · show (Pu.feed F0 f _ (b.drop (min s.lf b.length))).1.rd ≤ _
        omega

/-- the pieces that are cut -/
def pcs : List Int → List Int → List (List Int)
  | _, [] => []
  | rem, c :: r => rem.take (max 0 (min c rem.length)).toNat :: pcs (rem.drop (max 0 (min c rem.length)).toNat) r
theorem pcs_flat : ∀ (cs : List Int) (rem : List Int) (L : Int), (rem.length : Int) ≤ L → (pcs rem (cs ++ [L])).flatten = rem
  | [], rem, L, h => by
    have e : (max 0 (min L (rem.length : Int))).toNat = rem.length := by omega
    simp [pcs, e]
  | c :: r, rem, L, h => by
    have ih := pcs_flat r (rem.drop (max 0 (min c rem.length)).toNat) L (by rw [List.length_drop]; omega)
    simp only [List.cons_append, pcs, List.flatten_cons, ih]
    exact List.take_append_drop _ _
end Go.Proofs.YtnmmaedngdibeaaGreatDoor

namespace Go.Proofs.YtnmmaedngdibeaaGreatDoor
open Go.RowKit
set_option linter.unusedVariables false

/-- whatever the cuts are: the parser and the archive are those of the whole -/
theorem fed_arch (zs cuts : List Int) :
    (Pu.feeds fns0 (Pu.new fns0) (pcs zs (cuts ++ [(zs.length : Int)]))).1 = (Pu.run fns0 (Pu.new fns0) zs).1 ∧
    Pu.arcs (Pu.Ac.nil : AcE) (Pu.feeds fns0 (Pu.new fns0) (pcs zs (cuts ++ [(zs.length : Int)]))).2 = some (Pu.arch fns0 zs) ∧
    Pu.Goes (Pu.run fns0 (Pu.new fns0) zs).1 (Pu.arch fns0 zs) := by
  obtain ⟨h1, h2⟩ := Pu.feeds_run fns0 (pcs zs (cuts ++ [(zs.length : Int)])) (Pu.new fns0) (.inl (by show (512 : Nat) ≠ 0; omega))
  rw [pcs_flat cuts zs _ (Int.le_refl _)] at h1 h2
  obtain ⟨k1, k2⟩ := Pu.arch_eq fns0 zs
  exact ⟨h1, (h2 _).trans k1, k2⟩
/-- the archive with what its end says -/
def finA (zs : List Int) : AcE :=
  if (Pu.arch fns0 zs).ov then Pu.arch fns0 zs else { Pu.arch fns0 zs with code := 5, place := ((Pu.run fns0 (Pu.new fns0) zs).1.rd : Int) }
end Go.Proofs.YtnmmaedngdibeaaGreatDoor

namespace Go.Proofs.YtnmmaedngdibeaaGreatDoor
open Go.RowKit
set_option linter.unusedVariables false
set_option linter.unusedSimpArgs false

def blkAt (n : Nat) : Code → Option Code
  | .seq a b => (blkAt n a).or (blkAt n b)
  | .block m c => if m = n then some (.block m c) else blkAt n c
  | .scope c => blkAt n c
  | .cond _ a b => (blkAt n a).or (blkAt n b)
  | .loop c => blkAt n c
  | _ => none

theorem sizeEv : (Tryz.prog.info? 44).map (·.size) = some 14 := by kernel_rfl
theorem sizeEn : (Tryz.prog.info? 33).map (·.size) = some 10 := by kernel_rfl
theorem zeroTh (W : World) : (zeroValue 35).run Tryz.prog W = .ok (.agg #[.string ⟨#[]⟩, .string ⟨#[]⟩, .int .i64 0, .int .i64 0, .int .i64 0, .int .i64 0, .int .i64 0, .int .i64 0, .string ⟨#[]⟩, .string ⟨#[]⟩, .string ⟨#[]⟩, .bool false, .int .i64 0]) W := by
  have b : (Tryz.prog.info? 35).bind (fun i => i.zero) = some (.agg #[.string ⟨#[]⟩, .string ⟨#[]⟩, .int .i64 0, .int .i64 0, .int .i64 0, .int .i64 0, .int .i64 0, .int .i64 0, .string ⟨#[]⟩, .string ⟨#[]⟩, .string ⟨#[]⟩, .bool false, .int .i64 0]) := by kernel_rfl
  cases hq : Tryz.prog.info? 35 with
  | none => rw [hq] at b; simp at b
  | some i => rw [hq] at b; simp at b; simp [zeroValue, typeInfo, hq, b]
theorem ev_at : ∀ (L : List (EvE × Value)) (i : Nat) (h : i < L.length) (j : Nat) (u : Value), (evCells L[i].1 L[i].2)[j]? = some u → (L.flatMap fun x => evCells x.1 x.2)[i * 14 + j]? = some u
  | a :: r, 0, h, j, u, hj => by
    simp only [List.getElem_cons_zero] at hj
    rw [List.flatMap_cons, Nat.zero_mul, Nat.zero_add]
    exact List.getElem?_append_left (by have := (List.getElem?_eq_some_iff.1 hj).1; exact this) ▸ hj
  | a :: r, i + 1, h, j, u, hj => by
    simp only [List.getElem_cons_succ] at hj
    rw [List.flatMap_cons, List.getElem?_append_right (by rw [evCells_len]; omega), evCells_len]
    have := ev_at r i (by simpa using h) j u hj
    rw [show (i + 1) * 14 + j - 14 = i * 14 + j from by omega]
    exact this
theorem bytes_src {W : World} {G : Nat} {bb : List Int} (h : H.Src W (some ⟨G, 0, none⟩) bb) (hb : bb ≠ []) (hA : H.AllB bb) : X.BytesAt W G 0 (U8 bb) := by
  intro i hi
  rw [U8_length] at hi
  rw [U8_get hA hi, Nat.zero_add]
  obtain ⟨ad, e, hc⟩ := h (List.length_pos_iff.2 hb)
  cases e
  have := hc i (.int .u8 bb[i]) (by simp [H.cellsOf, hi])
  rw [add_at, Nat.zero_add] at this
  exact this
theorem strB_app (a b : List Int) : strB a ++ strB b = strB (a ++ b) := by
  apply ByteArray.ext
  simp [strB, U8, ByteArray.data_append]
theorem cells_box {W : World} {g : Nat} {x y z u : Value} {t : TypeId} (h : W.heap[g]? = some (.cells #[x, y, z, u] t (0, 0))) : W.cell? ⟨g, 0, none⟩ = some x ∧ ∀ n, W.frozen? ⟨g, n, none⟩ = false := ⟨by simp [World.cell?, h], fun n => by simp [World.frozen?, h]⟩
theorem Ga.drew {w0 W : World} {ga : Nat} {tv0 tv : Value} {a : AcE} (h : Ga w0 W ga tv0 tv a) : Ga w0 W.drew ga tv0 tv a := ⟨h.box, h.row, h.ne, ⟨h.mv.os, h.mv.tape, h.mv.output, h.mv.size, h.mv.block⟩, h.old, h.lt⟩

set_option maxRecDepth 100000 in
set_option maxHeartbeats 8000000 in
theorem events_w (W1 Wb : World) (ga : Nat) (tv v : Value) (a0 aE : AcE) (L : List (EvE × Value)) (M : Nat → Prop) (Q : Exit → Act → World → Prop) (hG : Ga W1 W1 ga tv tv a0) (hE : EvS W1 v L)
    (hvb : ∀ k, v.ownBlock = some k → Wb.heap.size ≤ k) (hga : ga < Wb.heap.size) (htv : ∀ k, tv.ownBlock = some k → k < Wb.heap.size) (hD : ∀ x ∈ L, DatOk Wb W1 M x)
    (hH : Pu.Half a0) (hA : Pu.arcs a0 (L.map (·.1)) = some aE) (hAB : ∀ b (p : Nat) (x : EvE × Value), x.1 = .dat b p → x ∈ L → H.AllB b ∧ b.length ≤ 100000) (K0 : Nat) (hdl : ∀ u ∈ a0.ts, u.d.length ≤ K0 * 100000) (hK0 : K0 + L.length ≤ 1000000) (hlen : a0.ts.length + L.length ≤ 500000) (hL : F.Laid W1) (hLg : 14 ≤ ga) (hLt : ∀ k, tv.ownBlock = some k → 14 ≤ k)
    (s0 s1 s2 s3 s4 s5 s6 s10 s11 s12 s13 s14 s15 s16 s17 s18 s19 s20 s21 s22 s23 s24 s25 s26 s27 s28 s29 s30 s31 s32 s33 s34 s35 s36 s37 s38 s39 s40 s41 s42 s43 s44 s48 s49 s50 s51 s52 s53 s54 s55 s56 s57 s58 s59 s60 s61 s62 s63 s64 s65 s66 s67 s68 s69 s70 s71 s72 s73 s74 s75 s76 s77 s78 s79 s80 s81 s82 s83 s84 s85 s86 s87 s88 s89 s90 s91 s92 s93 s94 s95 s96 s97 s98 s99 s100 s101 s102 s103 s104 s105 s106 s107 s108 s109 s110 s111 s112 s113 s114 s115 s116 s117 s118 s119 s120 s121 s122 s123 s124 s125 s126 s127 s128 s129 s130 s131 s132 s133 s134 s135 s136 s137 s138 s139 s140 s141 s142 s143 s144 s145 s146 s147 s148 s149 s150 s151 s152 : Value)
    (HQ : Hid (∀ (r5 r14 r15 r16 r47 r48 r49 r50 r51 r52 r53 r54 r55 r56 r57 r58 r59 r60 r61 r62 r63 r64 r65 r66 r67 r68 r69 r70 r71 r72 r73 r74 r75 r76 r77 r78 r79 r80 r81 r82 r83 r84 r85 r86 r87 r88 r89 r90 r91 r92 r93 r94 r95 r96 r97 r98 r99 r100 r101 r102 r103 r104 r105 r106 r107 r108 r109 r110 r111 r112 r113 r114 r115 r116 r117 r118 r119 r120 r121 r122 r123 r124 r125 r126 r127 r128 r129 r130 r131 r132 r133 r134 r135 r136 r137 : Value) (W : World) (tv2 : Value), Ga W1 W ga tv tv2 aE → Q .normal { tmps := #[s0, s1, s2, s3, s4, r5, s6, .pointer (some ⟨ga, 0, none⟩), .bool aE.op, .bool aE.ov, s10, s11, s12, s13, r14, r15, r16, s17, s18, s19, s20, s21, s22, s23, s24, s25, s26, s27, s28, s29, s30, s31, s32, s33, s34, s35, s36, s37, s38, s39, s40, s41, s42, s43, s44, v, .int .i64 (L.length : Int), r47, r48, r49, r50, r51, r52, r53, r54, r55, r56, r57, r58, r59, r60, r61, r62, r63, r64, r65, r66, r67, r68, r69, r70, r71, r72, r73, r74, r75, r76, r77, r78, r79, r80, r81, r82, r83, r84, r85, r86, r87, r88, r89, r90, r91, r92, r93, r94, r95, r96, r97, r98, r99, r100, r101, r102, r103, r104, r105, r106, r107, r108, r109, r110, r111, r112, r113, r114, r115, r116, r117, r118, r119, r120, r121, r122, r123, r124, r125, r126, r127, r128, r129, r130, r131, r132, r133, r134, r135, r136, r137, s138, s139, s140, s141, s142, s143, s144, s145, s146, s147, s148, s149, s150, s151, s152], defers := [] } W)) :
    Code.wp Tryz.prog ((Tryz.f11.body.bind (blkAt 2)).getD .skip) Q { tmps := #[s0, s1, s2, s3, s4, s5, s6, .pointer (some ⟨ga, 0, none⟩), .bool a0.op, .bool a0.ov, s10, s11, s12, s13, s14, s15, s16, s17, s18, s19, s20, s21, s22, s23, s24, s25, s26, s27, s28, s29, s30, s31, s32, s33, s34, s35, s36, s37, s38, s39, s40, s41, s42, s43, s44, v, .int .i64 (L.length : Int), .int .i64 0, s48, s49, s50, s51, s52, s53, s54, s55, s56, s57, s58, s59, s60, s61, s62, s63, s64, s65, s66, s67, s68, s69, s70, s71, s72, s73, s74, s75, s76, s77, s78, s79, s80, s81, s82, s83, s84, s85, s86, s87, s88, s89, s90, s91, s92, s93, s94, s95, s96, s97, s98, s99, s100, s101, s102, s103, s104, s105, s106, s107, s108, s109, s110, s111, s112, s113, s114, s115, s116, s117, s118, s119, s120, s121, s122, s123, s124, s125, s126, s127, s128, s129, s130, s131, s132, s133, s134, s135, s136, s137, s138, s139, s140, s141, s142, s143, s144, s145, s146, s147, s148, s149, s150, s151, s152], defers := [] } W1 := by
  conv => arg 2; whnf
  obtain ⟨ta, tc, rfl, _, _, _⟩ := own_sl hE
  have HG0 : Hid (Ga W1 W1 ga tv tv a0) := hG
  have HA0 : Hid (Pu.arcs a0 ((L.map (·.1)).drop 0) = some aE) := hA
  have HE : Hid (EvS W1 (.slice ta L.length tc) L) := hE
  have HVB : Hid _ := hvb
  have HTV : Hid _ := htv
  have HD : Hid _ := hD
  have HL : Hid (F.Laid W1) := hL
  have HLT : Hid _ := hLt
  have HLEN : Hid _ := hlen
  have HAB : Hid _ := hAB
  have hL5 : L.length ≤ 500000 := by omega
  have hsiE := sizeEv
  have hsiN := sizeEn
  have hzT := zeroTh
  obtain ⟨i0, hi, hz0, hz1, hz2⟩ := info_parts infoT
  clear hG hA hE hvb htv hD hL hLt hlen hAB
  go_wp2_with fail
  go_loopg [8, 9, 47] L.length (fun gk t8 t9 t47 W => ∃ (Wn : World) (i : Nat) (a : AcE) (tv2 : Value), Wn = W ∧ i ≤ L.length ∧ L.length - i ≤ gk ∧ t47 = .int .i64 (i : Int) ∧ t8 = .bool a.op ∧ t9 = .bool a.ov ∧ Hid (Ga W1 W ga tv tv2 a) ∧ Hid (Pu.arcs a ((L.map (·.1)).drop i) = some aE) ∧ Hid (a.ts.length ≤ a0.ts.length + i) ∧ Hid (Pu.Half a) ∧ Hid (∀ u ∈ a.ts, u.d.length ≤ (K0 + i) * 100000))
  case atStart => exact ⟨_, 0, a0, tv, rfl, Nat.zero_le _, by omega, rfl, rfl, rfl, HG0, HA0, Nat.le_add_right _ _, hH, hdl⟩
  case round =>
    obtain ⟨W, i, a, tv2, rfl, hi0, hgk, rfl, rfl, rfl, hGa, hAr, hTl, hHf, hDl⟩ := hrel
    clear HG0 HA0
    by_cases hlt : i < L.length
    · have hAr' := hAr.out
      rw [List.drop_eq_getElem_cons (by simpa using hlt)] at hAr'
      simp only [List.getElem_map, Pu.arcs] at hAr'
      have hxm : L[i] ∈ L := List.getElem_mem hlt
      have hDx := HD.out _ hxm
      rcases id HE.out.2 with ⟨e1, e2⟩ | ⟨GE, cE, curE, e1, eB, e3, e4, e5, e6, e7⟩
      · omega
      cases e1
      have hGE1 := lt_of_heap e3
      have hGEb := HVB.out GE rfl
      have hGEn : ¬ (GE = ga ∨ tv.ownBlock = some GE) := fun q => by
        rcases q with q | q
        · omega
        · have := HTV.out _ q; omega
      have hGEk := hGa.out.mv.block GE hGE1 hGEn
      have hcell : ∀ j u, (evCells L[i].1 L[i].2)[j]? = some u → W.cell? ⟨GE, i * 14 + j, none⟩ = some u := fun j u hj => by
        have hc := HE.out.cells (g := GE) rfl (i * 14 + j) u (ev_at L i hlt j u hj)
        rw [add_at, Nat.zero_add] at hc
        simp only [World.cell?] at hc ⊢
        rw [hGEk]
        exact hc
      have hGEW : GE < W.heap.size := Nat.lt_of_lt_of_le hGE1 hGa.out.sz
      have hgaW : ga < W.heap.size := Nat.lt_of_lt_of_le hGa.out.lt hGa.out.sz
      have hbx := hGa.out.box
      have hfz : ∀ n, W.frozen? ⟨ga, n, none⟩ = false := fun n => by simp [World.frozen?, hbx]
      have hb0 : W.cell? ⟨ga, 0, none⟩ = some tv2 := by simp [World.cell?, hbx]
      have hb1 : W.cell? ⟨ga, 1, none⟩ = some (.bool a.dn) := by simp [World.cell?, hbx]
      have hb2 : W.cell? ⟨ga, 2, none⟩ = some (.int .i64 a.code) := by simp [World.cell?, hbx]
      have hb3 : W.cell? ⟨ga, 3, none⟩ = some (.int .i64 a.place) := by simp [World.cell?, hbx]
      have hGEne : GE ≠ ga := by omega
      have HAR : Hid _ := hAr'
      have HDX : Hid _ := hDx
      clear hAr' hDx e3 e4 e6 e7 hGEn hGEk eB
      have HXM : Hid _ := hxm
      clear hxm
      generalize hx : L[i] = x at *
      clear hx
      obtain ⟨xe, xv⟩ := x
      cases xe with
      | bgn y p =>
        have hc : W.rangeAt GE (i * 14) [.int .i64 1, .string y.path, .string y.link, .int .i64 y.kind, .int .i64 y.mode, .int .i64 y.uid, .int .i64 y.gid, .int .i64 y.mtime, .int .i64 y.size, .string y.user, .string y.group, .slice none 0 0, .nilIface, .int .i64 (p : Int)] := fun j u hj => hcell j u (by simpa [evCells, E.En.cells] using hj)
        have hov : a.ov = false := by have := HAR.out; simp only [Pu.arc] at this; cases h : a.ov with | false => rfl | true => simp [h] at this
        have hop : a.op = false := by have := HAR.out; simp only [Pu.arc, hov] at this; cases h : a.op with | false => rfl | true => simp [h] at this
        have hAn : Hid (Pu.arcs { a with ts := a.ts ++ [⟨y, [], false, p⟩], op := true } ((L.map (·.1)).drop (i + 1)) = some aE) := by show _ = _; have := HAR.out; simp only [Pu.arc, hov, hop] at this; simpa [hov] using this
        have hHn : Hid (Pu.Half { a with ts := a.ts ++ [⟨y, [], false, p⟩], op := true }) := fun z => ⟨a.ts, _, rfl, rfl⟩
        have hDn : Hid (∀ u ∈ a.ts ++ [(⟨y, [], false, p⟩ : ThE)], u.d.length ≤ (K0 + (i + 1)) * 100000) := fun u hu => by
          rcases List.mem_append.1 hu with hu | hu
          · exact Nat.le_trans (hDl.out u hu) (by omega)
          · obtain rfl := List.mem_singleton.1 hu
            simp
        have hTl2 : a.ts.length ≤ a0.ts.length + i := hTl.out
        have hLN := HLEN.out
        obtain ⟨Wx, hWx⟩ : ∃ Wx, Wx = W.alloc (.cells #[.int .i64 1, .string y.path, .string y.link, .int .i64 y.kind, .int .i64 y.mode, .int .i64 y.uid, .int .i64 y.gid, .int .i64 y.mtime, .int .i64 y.size, .string y.user, .string y.group, .slice none 0 0, .nilIface, .int .i64 (p : Int)] 44) := ⟨_, rfl⟩
        have bX : Below W.heap.size W Wx := by rw [hWx]; exact (Below.refl W.heap.size W).alloc (Nat.le_refl _) _
        have gX := hGa.out.below bX
        have hxW : W.heap.size < Wx.heap.size := by rw [hWx]; simp
        have x13 : Wx.cell? ⟨W.heap.size, 13, none⟩ = some (.int .i64 (p : Int)) := by rw [hWx]; simp [World.cell?_alloc_new]
        have hcE : Wx.rangeAt W.heap.size 1 [.string y.path, .string y.link, .int .i64 y.kind, .int .i64 y.mode, .int .i64 y.uid, .int .i64 y.gid, .int .i64 y.mtime, .int .i64 y.size, .string y.user, .string y.group] := fun j u hj => by
          rw [hWx, World.cell?_alloc_new]
          match j, hj with
          | 0, hj => simpa using hj
          | 1, hj => simpa using hj
          | 2, hj => simpa using hj
          | 3, hj => simpa using hj
          | 4, hj => simpa using hj
          | 5, hj => simpa using hj
          | 6, hj => simpa using hj
          | 7, hj => simpa using hj
          | 8, hj => simpa using hj
          | 9, hj => simpa using hj
        have bxx := gX.box
        have xb0 : Wx.cell? ⟨ga, 0, none⟩ = some tv2 := by simp [World.cell?, bxx]
        have bY : Below Wx.heap.size Wx (Wx.alloc (.cells #[.string y.path, .string y.link, .int .i64 y.kind, .int .i64 y.mode, .int .i64 y.uid, .int .i64 y.gid, .int .i64 y.mtime, .int .i64 y.size, .string y.user, .string y.group, .string ⟨#[]⟩, .bool false, .int .i64 (p : Int)] 35)) := (Below.refl Wx.heap.size Wx).alloc (Nat.le_refl _) _
        have gY := gX.below bY
        have HNW : Hid (∀ j u, (thCells (⟨y, [], false, p⟩ : ThE))[j]? = some u → (Wx.alloc (.cells #[.string y.path, .string y.link, .int .i64 y.kind, .int .i64 y.mode, .int .i64 y.uid, .int .i64 y.gid, .int .i64 y.mtime, .int .i64 y.size, .string y.user, .string y.group, .string ⟨#[]⟩, .bool false, .int .i64 (p : Int)] 35)).cell? ((⟨Wx.heap.size, 0, none⟩ : Addr).add j) = some u) := fun j u hj => by
          rw [add_at, Nat.zero_add, World.cell?_alloc_new]
          simpa [thCells, E.En.cells, strB, U8] using hj
        have HGY : Hid _ := gY
        have HWX : Hid _ := hWx
        rw [hov, hop]
        clear hcell HAR HDX hWx gX gY bxx
        go_upto_region 19 with (refine wpList_load_mid rfl 44 _ rfl GE _ rfl [.int .i64 1, .string y.path, .string y.link, .int .i64 y.kind, .int .i64 y.mode, .int .i64 y.uid, .int .i64 y.gid, .int .i64 y.mtime, .int .i64 y.size, .string y.user, .string y.group, .slice none 0 0, .nilIface, .int .i64 (p : Int)] _ hc Tryz.underlying44 rfl hsiE ?_)
        rw [← HWX.out]
        go_wp2_with (first
          | (refine wpList_load_mid rfl 33 _ rfl W.heap.size 1 rfl [.string y.path, .string y.link, .int .i64 y.kind, .int .i64 y.mode, .int .i64 y.uid, .int .i64 y.gid, .int .i64 y.mtime, .int .i64 y.size, .string y.user, .string y.group] _ hcE Tryz.underlying33 rfl hsiN ?_)
          | (at_builtin; refine wpList_append_own_at _ rfl _ _ 25 rfl 0 35 i0 _ 13 144 Tryz.underlying25 hi hz0 hz1 hz2 rfl (by decide) tv2 _ _ rfl HGY.out.row ⟨Wx.heap.size, 0, none⟩ 1 1 _ rfl rfl HNW.out (th_one _) (by unfold maxLen; omega) (by omega) (Nat.zero_le _) ?_; intro v6 w6 o6 g6 _ at6; have hbz := (g6.block ga (by have := HGY.out.sz; have := HGY.out.lt; omega) (fun e => HGY.out.ne e.symm)).trans HGY.out.box; obtain ⟨hz0', hzf⟩ := cells_box hbz; obtain ⟨a6, c6, rfl, _, _, _⟩ := own_sl o6; have HO6 : Hid _ := o6; have HG6 : Hid _ := g6; have HT6 : Hid _ := at6; clear o6 g6 at6 hbz))
        all_goals
          have o6 := HO6.out
          have o6' : ThS w6 (.slice a6 (a.ts.length + 1) c6) (a.ts ++ [(⟨y, [], false, p⟩ : ThE)]) := by
            unfold ThS
            rw [List.length_append, List.flatMap_append]
            simp only [List.flatMap_cons, List.flatMap_nil, List.append_nil, List.length_cons, List.length_nil, Nat.zero_add]
            exact o6
          have hGn := HGY.out.grow (b := { a with ts := a.ts ++ [⟨y, [], false, p⟩], op := true }) o6' HG6.out HT6.out rfl rfl rfl
          go_roundg (L.length - (i + 1))
          case rel => exact ⟨_, i + 1, { a with ts := a.ts ++ [⟨y, [], false, p⟩], op := true }, _, rfl, by omega, Nat.le_refl _, by simp, rfl, by first | rfl | (simp [hov]), (by first | exact hGn | exact hGn.drew), hAn, by show _ ≤ _; simp only [List.length_append, List.length_cons, List.length_nil]; omega, hHn, hDn⟩
          case measure => omega
      | dat bb p =>
        obtain ⟨GD, cD, rfl, d1, d2, d3, d4, d5, d6⟩ := HDX.out
        have hAB : H.AllB bb := (HAB.out bb p _ rfl HXM.out).1
        have hc : W.rangeAt GE (i * 14) [.int .i64 2, .string ⟨#[]⟩, .string ⟨#[]⟩, .int .i64 0, .int .i64 0, .int .i64 0, .int .i64 0, .int .i64 0, .int .i64 0, .string ⟨#[]⟩, .string ⟨#[]⟩, .slice (some ⟨GD, 0, none⟩) bb.length cD, .nilIface, .int .i64 (p : Int)] := fun j u hj => hcell j u (by simpa [evCells, zero10] using hj)
        have hov : a.ov = false := by have := HAR.out; simp only [Pu.arc] at this; cases h : a.ov with | false => rfl | true => simp [h] at this
        have hop : a.op = true := by have := HAR.out; simp only [Pu.arc, hov] at this; cases h : a.op with | true => rfl | false => simp [h] at this
        have hbb : bb ≠ [] := by have := HAR.out; simp only [Pu.arc, hov, hop] at this; intro e; simp [e] at this
        obtain ⟨l, t, hts, htw⟩ := hHf.out hop
        have hAn : Hid (Pu.arcs { a with ts := l ++ [{ t with d := t.d ++ bb, p := p }] } ((L.map (·.1)).drop (i + 1)) = some aE) := by show _ = _; have := HAR.out; simp only [Pu.arc, hov, hop, hts, Pu.chLast_snoc, hbb] at this; simpa [hov, hop] using this
        have hDn : Hid (∀ u ∈ l ++ [({ t with d := t.d ++ bb, p := p } : ThE)], u.d.length ≤ (K0 + (i + 1)) * 100000) := fun u hu => by
          rcases List.mem_append.1 hu with hu | hu
          · exact Nat.le_trans (hDl.out u (by rw [hts]; exact List.mem_append_left _ hu)) (by omega)
          · obtain rfl := List.mem_singleton.1 hu
            have := hDl.out t (by rw [hts]; simp)
            have h2 := (HAB.out bb p _ rfl HXM.out).2
            simp only [List.length_append]
            omega
        have hHn : Hid (Pu.Half { a with ts := l ++ [{ t with d := t.d ++ bb, p := p }] }) := fun z => ⟨l, _, rfl, htw⟩
        have hlT : a.ts.length = l.length + 1 := by rw [hts]; simp
        have hTl' := hTl.out
        rcases id hGa.out.row.2 with ⟨e1, e2⟩ | ⟨G, cG, curG, e1, eB2, e3, e4', e5', e6, e7⟩
        · omega
        subst e1
        rw [hlT] at hb0 hbx
        have hGW := lt_of_heap e3
        have hGg : G ≠ ga := fun e => hGa.out.ne (by rw [e]; rfl)
        have hLC : ∀ j u, (thCells t)[j]? = some u → W.cell? ⟨G, l.length * 13 + j, none⟩ = some u := fun j u hj => by
          have hr := hGa.out.row
          unfold ThS at hr
          rw [hts] at hr
          exact last_cells hr j u hj
        have l10 := hLC 10 (.string (strB t.d)) (by simp [thCells, E.En.cells])
        have l11 := hLC 11 (.bool t.wh) (by simp [thCells, E.En.cells])
        have l12 := hLC 12 (.int .i64 (t.p : Int)) (by simp [thCells, E.En.cells])
        have hfG : ∀ n, W.frozen? ⟨G, n, none⟩ = false := fun n => by simp [World.frozen?, e3]
        have hm1 : l.length ≤ 1000000 := by have := HLEN.out; omega
        have hc' : W.rangeAt GE (i * 14) [.int .i64 2, .string ⟨#[]⟩, .string ⟨#[]⟩, .int .i64 0, .int .i64 0, .int .i64 0, .int .i64 0, .int .i64 0, .int .i64 0, .string ⟨#[]⟩, .string ⟨#[]⟩, .slice (some ⟨GD, 0, none⟩) bb.length cD, .nilIface, .int .i64 (p : Int)] := hc
        obtain ⟨Wx, hWx⟩ : ∃ Wx, Wx = W.alloc (.cells #[.int .i64 2, .string ⟨#[]⟩, .string ⟨#[]⟩, .int .i64 0, .int .i64 0, .int .i64 0, .int .i64 0, .int .i64 0, .int .i64 0, .string ⟨#[]⟩, .string ⟨#[]⟩, .slice (some ⟨GD, 0, none⟩) bb.length cD, .nilIface, .int .i64 (p : Int)] 44) := ⟨_, rfl⟩
        have bX : Below W.heap.size W Wx := by rw [hWx]; exact (Below.refl W.heap.size W).alloc (Nat.le_refl _) _
        have gX := hGa.out.below bX
        have x13 : Wx.cell? ⟨W.heap.size, 13, none⟩ = some (.int .i64 (p : Int)) := by rw [hWx]; simp [World.cell?_alloc_new]
        have m11 : Wx.cell? ⟨G, l.length * 13 + 11, none⟩ = some (.bool t.wh) := (bX.cell (p := ⟨G, _, none⟩) hGW).trans l11
        have m12 : Wx.cell? ⟨G, l.length * 13 + 12, none⟩ = some (.int .i64 (t.p : Int)) := (bX.cell (p := ⟨G, _, none⟩) hGW).trans l12
        have mfz : ∀ n, Wx.frozen? ⟨G, n, none⟩ = false := fun n => by have := bX.block G hGW; simp [World.frozen?, this, e3]
        have hne : W.heap.size ≠ G := by omega
        have hne2 : G ≠ W.heap.size := by omega
        have hS1 : ∀ j v, (Wx.setCell ⟨G, j, none⟩ v).drew.cell? ⟨W.heap.size, 13, none⟩ = some (.int .i64 (p : Int)) := fun j v => (World.cell?_setCell_far Wx ⟨G, j, none⟩ ⟨W.heap.size, 13, none⟩ v (by omega)).trans x13
        have HS1 : Hid _ := hS1
        clear hS1
        have hGGD : G ≠ GD := by
          rcases hGa.out.old with e | ⟨k, e, hk⟩
          · have := HTV.out G e.symm
            omega
          · have : G = k := by simpa [Value.ownBlock] using e
            omega
        have hGDk : W.heap[GD]? = W1.heap[GD]? := hGa.out.mv.block GD d5 (fun z => by rcases z with z | z; omega; have := HTV.out GD z; omega)
        have hGDx : Wx.heap[GD]? = W1.heap[GD]? := (bX.block GD (Nat.lt_of_lt_of_le d5 hGa.out.sz)).trans hGDk
        have hsX := src_moved d3.1 hGDx
        have x11 : Wx.cell? ⟨W.heap.size, 11, none⟩ = some (.slice (some ⟨GD, 0, none⟩) bb.length cD) := by rw [hWx]; simp [World.cell?_alloc_new]
        have m10 : Wx.cell? ⟨G, l.length * 13 + 10, none⟩ = some (.string (strB t.d)) := (bX.cell (p := ⟨G, _, none⟩) hGW).trans l10
        have hbpos : 0 < bb.length := List.length_pos_iff.2 hbb
        have hbB : X.BytesAt Wx GD 0 (U8 bb) := bytes_src hsX hbb hAB
        have HCV : Hid (∀ W' : World, X.BytesAt W' GD 0 (U8 bb) → (convert 22 9 (.slice (some ⟨GD, 0, none⟩) bb.length cD)).run Tryz.prog W' = .ok (.string (strB bb)) W') := fun W' h => by
          have := X.conv_str W' GD 0 cD (U8 bb) h
          rw [U8_length] at this
          exact this
        have hcv := HCV.out
        have hs1 : (strB t.d).size ≤ 200000000000 := by have h := hDl.out t (by rw [hts]; simp); have := hK0; have e : (strB t.d).size = t.d.length := by simp [strB, ByteArray.size, U8]
                                                        rw [e]; omega
        have hs2 : (strB bb).size ≤ 100000 := by have e : (strB bb).size = bb.length := by simp [strB, ByteArray.size, U8]
                                                 rw [e]; exact (HAB.out bb p _ rfl HXM.out).2
        have hadd : ¬ (9223372036854775807 : Int) < ((strB t.d).size : Int) + ((strB bb).size : Int) := by omega
        have hadd2 : ¬ 9223372036854775807 < (strB t.d).size + (strB bb).size := by omega
        have hstr : strB t.d ++ strB bb = strB (t.d ++ bb) := strB_app _ _
        have hS0 : Wx.cell? ⟨W.heap.size, 13, none⟩ = some (.int .i64 (p : Int)) ∧ Wx.cell? ⟨W.heap.size, 11, none⟩ = some (.slice (some ⟨GD, 0, none⟩) bb.length cD) ∧ X.BytesAt Wx GD 0 (U8 bb) := ⟨x13, x11, hbB⟩
        have HSK : Hid (∀ j v, ((Wx.setCell ⟨G, j, none⟩ v).cell? ⟨W.heap.size, 13, none⟩ = some (.int .i64 (p : Int)) ∧ (Wx.setCell ⟨G, j, none⟩ v).cell? ⟨W.heap.size, 11, none⟩ = some (.slice (some ⟨GD, 0, none⟩) bb.length cD) ∧ X.BytesAt (Wx.setCell ⟨G, j, none⟩ v) GD 0 (U8 bb))) := fun j v =>
          ⟨(World.cell?_setCell_far Wx ⟨G, j, none⟩ ⟨W.heap.size, 13, none⟩ v (by omega)).trans x13, (World.cell?_setCell_far Wx ⟨G, j, none⟩ ⟨W.heap.size, 11, none⟩ v (by omega)).trans x11, fun k hk => (World.cell?_setCell_far Wx ⟨G, j, none⟩ ⟨GD, 0 + k, none⟩ v hGGD).trans (hbB k hk)⟩
        have HSK2 : Hid (∀ j v j2 v2, (((Wx.setCell ⟨G, j, none⟩ v).setCell ⟨G, j2, none⟩ v2).cell? ⟨W.heap.size, 13, none⟩ = some (.int .i64 (p : Int)) ∧ ((Wx.setCell ⟨G, j, none⟩ v).setCell ⟨G, j2, none⟩ v2).cell? ⟨W.heap.size, 11, none⟩ = some (.slice (some ⟨GD, 0, none⟩) bb.length cD) ∧ X.BytesAt ((Wx.setCell ⟨G, j, none⟩ v).setCell ⟨G, j2, none⟩ v2) GD 0 (U8 bb))) := fun j v j2 v2 =>
          ⟨(World.cell?_setCell_far (Wx.setCell ⟨G, j, none⟩ v) ⟨G, j2, none⟩ ⟨W.heap.size, 13, none⟩ v2 (by omega)).trans (HSK.out j v).1, (World.cell?_setCell_far (Wx.setCell ⟨G, j, none⟩ v) ⟨G, j2, none⟩ ⟨W.heap.size, 11, none⟩ v2 (by omega)).trans (HSK.out j v).2.1, fun k hk => (World.cell?_setCell_far (Wx.setCell ⟨G, j, none⟩ v) ⟨G, j2, none⟩ ⟨GD, 0 + k, none⟩ v2 hGGD).trans ((HSK.out j v).2.2 k hk)⟩
        have HSK2d : Hid (∀ j v j2 v2, (((Wx.setCell ⟨G, j, none⟩ v).setCell ⟨G, j2, none⟩ v2).drew.cell? ⟨W.heap.size, 13, none⟩ = some (.int .i64 (p : Int)) ∧ ((Wx.setCell ⟨G, j, none⟩ v).setCell ⟨G, j2, none⟩ v2).drew.cell? ⟨W.heap.size, 11, none⟩ = some (.slice (some ⟨GD, 0, none⟩) bb.length cD) ∧ X.BytesAt ((Wx.setCell ⟨G, j, none⟩ v).setCell ⟨G, j2, none⟩ v2).drew GD 0 (U8 bb))) := fun j v j2 v2 => HSK2.out j v j2 v2
        have HSKd : Hid (∀ j v, ((Wx.setCell ⟨G, j, none⟩ v).drew.cell? ⟨W.heap.size, 13, none⟩ = some (.int .i64 (p : Int)) ∧ (Wx.setCell ⟨G, j, none⟩ v).drew.cell? ⟨W.heap.size, 11, none⟩ = some (.slice (some ⟨GD, 0, none⟩) bb.length cD) ∧ X.BytesAt (Wx.setCell ⟨G, j, none⟩ v).drew GD 0 (U8 bb))) := fun j v => HSK.out j v
        have hS9 : Wx.drew.cell? ⟨W.heap.size, 13, none⟩ = some (.int .i64 (p : Int)) ∧ Wx.drew.cell? ⟨W.heap.size, 11, none⟩ = some (.slice (some ⟨GD, 0, none⟩) bb.length cD) ∧ X.BytesAt Wx.drew GD 0 (U8 bb) := hS0
        have hGn := (gX.two (b := { a with ts := l ++ [{ t with d := t.d ++ bb, p := p }] }) rfl (l.length * 13 + 10) (l.length * 13 + 12) (.string (strB (t.d ++ bb))) (.int .i64 (p : Int)) (by rw [hts]; exact last_two l t 10 12 _ _ (by simp [thCells, E.En.cells])) (by rw [hlT]; simp) rfl rfl rfl)
        have HWX : Hid (Wx = W.alloc (.cells #[.int .i64 2, .string ⟨#[]⟩, .string ⟨#[]⟩, .int .i64 0, .int .i64 0, .int .i64 0, .int .i64 0, .int .i64 0, .int .i64 0, .string ⟨#[]⟩, .string ⟨#[]⟩, .slice (some ⟨GD, 0, none⟩) bb.length cD, .nilIface, .int .i64 (p : Int)] 44)) := hWx
        clear hWx
        rw [hlT] at hGn
        have hTl2 : l.length + 1 ≤ a0.ts.length + i := by omega
        have hGn' : Hid _ := hGn
        have HLC : Hid _ := hLC
        have HBX : Hid _ := hbx
        rw [hov, hop]
        clear hcell HAR HDX hGn gX hLC e3 e4' e5' e6 e7 eB2 hlT hTl' hbx hts htw
        go_upto_region 25 with (refine wpList_load_mid rfl 44 _ rfl GE _ rfl [.int .i64 2, .string ⟨#[]⟩, .string ⟨#[]⟩, .int .i64 0, .int .i64 0, .int .i64 0, .int .i64 0, .int .i64 0, .int .i64 0, .string ⟨#[]⟩, .string ⟨#[]⟩, .slice (some ⟨GD, 0, none⟩) bb.length cD, .nilIface, .int .i64 (p : Int)] _ hc Tryz.underlying44 rfl hsiE ?_)
        rw [← HWX.out]
        clear l10 l11 l12 hfG HWX hsX hbB x11
        refine wp_region_noPanic ?_
        refine wp_region_held_drew (S := (fun W' : World => (W'.cell? ⟨W.heap.size, 13, none⟩ = some (.int .i64 (p : Int)) ∧ W'.cell? ⟨W.heap.size, 11, none⟩ = some (.slice (some ⟨GD, 0, none⟩) bb.length cD) ∧ X.BytesAt W' GD 0 (U8 bb)))) (by kernel_rfl) (by first | exact hS0 | exact hS9) (fun hHeld => ?_)
        refine wpAnyH_take (i := 0) (oi := { dst := some 88, op := Op.move (Operand.tmp 15), type := 67, pos := "law.go:52", after := #[], guard := none }) (v := ?_) rfl (by kernel_rfl) (by kernel_rfl) (by kernel_rfl) (fun _ _ _ h => h) (Or.inl ⟨by rfl, ?_⟩) (by assumption) ?_
        rotate_left 1
        · (intro W hSw; obtain ⟨hSw0, hSw1, hSw2⟩ := hSw; go_simp; try with_reducible rfl)
        (try simp only [Act.put, List.setIfInBounds_toArray, List.set_cons_zero, List.set_cons_succ])
        refine wpAnyH_take (i := 1) (oi := { dst := some 89, op := Op.move (Operand.tmp 15), type := 67, pos := "law.go:52", after := #[{ on := 14, ground := Ground.gcOnly Departure.lateStores }], guard := none }) (v := ?_) rfl (by kernel_rfl) (by kernel_rfl) (by kernel_rfl) (fun _ _ _ h => h) (Or.inl ⟨by rfl, ?_⟩) (by assumption) ?_
        rotate_left 1
        · (intro W hSw; obtain ⟨hSw0, hSw1, hSw2⟩ := hSw; go_simp; try with_reducible rfl)
        (try simp only [Act.put, List.setIfInBounds_toArray, List.set_cons_zero, List.set_cons_succ])
        refine wpAnyH_take (i := 2) (oi := { dst := some 90, op := Op.move (Operand.tmp 15), type := 67, pos := "law.go:52", after := #[], guard := none }) (v := ?_) rfl (by kernel_rfl) (by kernel_rfl) (by kernel_rfl) (fun _ _ _ h => h) (Or.inl ⟨by rfl, ?_⟩) (by assumption) ?_
        rotate_left 1
        · (intro W hSw; obtain ⟨hSw0, hSw1, hSw2⟩ := hSw; go_simp; try with_reducible rfl)
        (try simp only [Act.put, List.setIfInBounds_toArray, List.set_cons_zero, List.set_cons_succ])
        refine wpAnyH_take (i := 3) (oi := { dst := some 91, op := Op.nilCheck (Operand.tmp 90), type := 0, pos := "law.go:52", after := #[{ on := 2, ground := Ground.data }], guard := none }) (v := ?_) rfl (by kernel_rfl) (by kernel_rfl) (by kernel_rfl) (fun _ _ _ h => h) (Or.inl ⟨by rfl, ?_⟩) (by assumption) ?_
        rotate_left 1
        · (intro W hSw; obtain ⟨hSw0, hSw1, hSw2⟩ := hSw; go_simp; try with_reducible rfl)
        (try simp only [Act.put, List.setIfInBounds_toArray, List.set_cons_zero, List.set_cons_succ])
        refine wpAnyH_take (i := 4) (oi := { dst := some 92, op := Op.fieldAddr 35 (Operand.tmp 91) 1, type := 0, pos := "law.go:52", after := #[{ on := 3, ground := Ground.data }], guard := none }) (v := ?_) rfl (by kernel_rfl) (by kernel_rfl) (by kernel_rfl) (fun _ _ _ h => h) (Or.inl ⟨by rfl, ?_⟩) (by assumption) ?_
        rotate_left 1
        · (intro W hSw; obtain ⟨hSw0, hSw1, hSw2⟩ := hSw; go_simp; try with_reducible rfl)
        (try simp only [Act.put, List.setIfInBounds_toArray, List.set_cons_zero, List.set_cons_succ])
        refine wpAnyH_take (i := 6) (oi := { dst := some 94, op := Op.fieldAddr 44 (Operand.tmp 14) 2, type := 0, pos := "law.go:52", after := #[], guard := none }) (v := ?_) rfl (by kernel_rfl) (by kernel_rfl) (by kernel_rfl) (fun _ _ _ h => h) (Or.inl ⟨by rfl, ?_⟩) (by assumption) ?_
        rotate_left 1
        · (intro W hSw; obtain ⟨hSw0, hSw1, hSw2⟩ := hSw; go_simp; try with_reducible rfl)
        (try simp only [Act.put, List.setIfInBounds_toArray, List.set_cons_zero, List.set_cons_succ])
        refine wpAnyH_take (i := 7) (oi := { dst := some 95, op := Op.load 22 (Operand.tmp 94), type := 22, pos := "law.go:52", after := #[{ on := 6, ground := Ground.data }], guard := none }) (v := ?_) rfl (by kernel_rfl) (by kernel_rfl) (by kernel_rfl) (fun _ _ _ h => h) (Or.inl ⟨by rfl, ?_⟩) (by assumption) ?_
        rotate_left 1
        · (intro W hSw; obtain ⟨hSw0, hSw1, hSw2⟩ := hSw; go_simp; try with_reducible rfl)
        (try simp only [Act.put, List.setIfInBounds_toArray, List.set_cons_zero, List.set_cons_succ])
        refine wpAnyH_take (i := 8) (oi := { dst := some 96, op := Op.convert 22 9 (Operand.tmp 95), type := 9, pos := "law.go:52", after := #[{ on := 7, ground := Ground.data }], guard := none }) (v := ?_) rfl (by kernel_rfl) (by kernel_rfl) (by kernel_rfl) (fun _ _ _ h => h) (Or.inl ⟨by rfl, ?_⟩) (by assumption) ?_
        rotate_left 1
        · (intro W hSw; obtain ⟨hSw0, hSw1, hSw2⟩ := hSw; go_simp; try with_reducible rfl)
        (try simp only [Act.put, List.setIfInBounds_toArray, List.set_cons_zero, List.set_cons_succ])
        refine wpAnyH_take (i := 10) (oi := { dst := some 98, op := Op.fieldAddr 44 (Operand.tmp 14) 4, type := 0, pos := "law.go:52", after := #[{ on := 14, ground := Ground.gcOnly Departure.lateStores }], guard := none }) (v := ?_) rfl (by kernel_rfl) (by kernel_rfl) (by kernel_rfl) (fun _ _ _ h => h) (Or.inl ⟨by rfl, ?_⟩) (by assumption) ?_
        rotate_left 1
        · (intro W hSw; obtain ⟨hSw0, hSw1, hSw2⟩ := hSw; go_simp; try with_reducible rfl)
        (try simp only [Act.put, List.setIfInBounds_toArray, List.set_cons_zero, List.set_cons_succ])
        refine wpAnyH_take (i := 11) (oi := { dst := some 99, op := Op.load 3 (Operand.tmp 98), type := 3, pos := "law.go:52", after := #[{ on := 10, ground := Ground.data }, { on := 14, ground := Ground.gcOnly Departure.lateStores }], guard := none }) (v := ?_) rfl (by kernel_rfl) (by kernel_rfl) (by kernel_rfl) (fun _ _ _ h => h) (Or.inl ⟨by rfl, ?_⟩) (by assumption) ?_
        rotate_left 1
        · (intro W hSw; obtain ⟨hSw0, hSw1, hSw2⟩ := hSw; go_simp; try with_reducible rfl)
        (try simp only [Act.put, List.setIfInBounds_toArray, List.set_cons_zero, List.set_cons_succ])
        refine wpAnyH_ready (rs := [5]) (by kernel_rfl) (by simp) ?_
        refine AllReadyH.cons (o := { dst := some 93, op := Op.load 9 (Operand.tmp 92), type := 9, pos := "law.go:52", after := #[{ on := 4, ground := Ground.data }], guard := none }) rfl (fun K hK => ?_) AllReadyH.nil
        · go_simp
          refine hK.out _ _ (by first | assumption | exact hS0 | exact hS9 | exact HSK.out _ _ | exact HSKd.out _ _ | exact HSK2.out _ _ _ _ | exact HSK2d.out _ _ _ _) (fun hHeld => ?_)
          clear hK K
          (try simp only [Act.put, List.setIfInBounds_toArray, List.set_cons_zero, List.set_cons_succ])
          refine wpAnyH_ready (rs := [9]) (by kernel_rfl) (by simp) ?_
          refine AllReadyH.cons (o := { dst := some 97, op := Op.binOp BinOp.add 9 (Operand.tmp 93) (Operand.tmp 96) 9, type := 9, pos := "law.go:52", after := #[{ on := 5, ground := Ground.data }, { on := 8, ground := Ground.data }], guard := none }) rfl (fun K hK => ?_) AllReadyH.nil
          · go_simp
            refine hK.out _ _ (by first | assumption | exact hS0 | exact hS9 | exact HSK.out _ _ | exact HSKd.out _ _ | exact HSK2.out _ _ _ _ | exact HSK2d.out _ _ _ _) (fun hHeld => ?_)
            clear hK K
            (try simp only [Act.put, List.setIfInBounds_toArray, List.set_cons_zero, List.set_cons_succ])
            refine wpAnyH_take (i := 12) (oi := { dst := some 100, op := Op.nilCheck (Operand.tmp 88), type := 0, pos := "law.go:52", after := #[{ on := 0, ground := Ground.data }, { on := 0, ground := Ground.phase }, { on := 1, ground := Ground.textOnly Departure.lateStores }, { on := 2, ground := Ground.phase }, { on := 3, ground := Ground.phase }, { on := 4, ground := Ground.phase }, { on := 5, ground := Ground.phase }, { on := 6, ground := Ground.phase }, { on := 7, ground := Ground.phase }, { on := 8, ground := Ground.phase }, { on := 9, ground := Ground.phase }, { on := 10, ground := Ground.textOnly Departure.lateStores }, { on := 11, ground := Ground.textOnly Departure.lateStores }], guard := none }) (v := ?_) rfl (by kernel_rfl) (by kernel_rfl) (by kernel_rfl) (fun _ _ _ h => h) (Or.inl ⟨by rfl, ?_⟩) (by assumption) ?_
            rotate_left 1
            · (intro W hSw; obtain ⟨hSw0, hSw1, hSw2⟩ := hSw; go_simp; try with_reducible rfl)
            (try simp only [Act.put, List.setIfInBounds_toArray, List.set_cons_zero, List.set_cons_succ])
            refine wpAnyH_take (i := 13) (oi := { dst := some 101, op := Op.fieldAddr 35 (Operand.tmp 100) 1, type := 0, pos := "law.go:52", after := #[{ on := 12, ground := Ground.data }, { on := 0, ground := Ground.phase }, { on := 1, ground := Ground.textOnly Departure.lateStores }, { on := 2, ground := Ground.phase }, { on := 3, ground := Ground.phase }, { on := 4, ground := Ground.phase }, { on := 5, ground := Ground.phase }, { on := 6, ground := Ground.phase }, { on := 7, ground := Ground.phase }, { on := 8, ground := Ground.phase }, { on := 9, ground := Ground.phase }, { on := 10, ground := Ground.textOnly Departure.lateStores }, { on := 11, ground := Ground.textOnly Departure.lateStores }], guard := none }) (v := ?_) rfl (by kernel_rfl) (by kernel_rfl) (by kernel_rfl) (fun _ _ _ h => h) (Or.inl ⟨by rfl, ?_⟩) (by assumption) ?_
            rotate_left 1
            · (intro W hSw; obtain ⟨hSw0, hSw1, hSw2⟩ := hSw; go_simp; try with_reducible rfl)
            (try simp only [Act.put, List.setIfInBounds_toArray, List.set_cons_zero, List.set_cons_succ])
            refine wpAnyH_ready (rs := [14]) (by kernel_rfl) (by simp) ?_
            refine AllReadyH.cons (o := { dst := none, op := Op.store 9 (Operand.tmp 101) (Operand.tmp 97), type := 0, pos := "law.go:52", after := #[{ on := 13, ground := Ground.data }, { on := 9, ground := Ground.data }, { on := 0, ground := Ground.phase }, { on := 1, ground := Ground.textOnly Departure.lateStores }, { on := 2, ground := Ground.phase }, { on := 3, ground := Ground.phase }, { on := 4, ground := Ground.phase }, { on := 5, ground := Ground.phase }, { on := 6, ground := Ground.phase }, { on := 7, ground := Ground.phase }, { on := 8, ground := Ground.phase }, { on := 9, ground := Ground.phase }, { on := 10, ground := Ground.textOnly Departure.lateStores }, { on := 11, ground := Ground.textOnly Departure.lateStores }], guard := none }) rfl (fun K hK => ?_) AllReadyH.nil
            · go_simp
              refine hK.out _ _ (by first | assumption | exact hS0 | exact hS9 | exact HSK.out _ _ | exact HSKd.out _ _ | exact HSK2.out _ _ _ _ | exact HSK2d.out _ _ _ _) (fun hHeld => ?_)
              clear hK K
              (try simp only [Act.put, List.setIfInBounds_toArray, List.set_cons_zero, List.set_cons_succ])
              refine wpAnyH_take (i := 15) (oi := { dst := some 102, op := Op.nilCheck (Operand.tmp 89), type := 0, pos := "law.go:52", after := #[{ on := 1, ground := Ground.data }, { on := 0, ground := Ground.phase }, { on := 1, ground := Ground.phase }, { on := 2, ground := Ground.phase }, { on := 3, ground := Ground.phase }, { on := 4, ground := Ground.phase }, { on := 5, ground := Ground.phase }, { on := 6, ground := Ground.phase }, { on := 7, ground := Ground.phase }, { on := 8, ground := Ground.phase }, { on := 9, ground := Ground.phase }, { on := 10, ground := Ground.phase }, { on := 11, ground := Ground.phase }, { on := 12, ground := Ground.phase }, { on := 13, ground := Ground.phase }, { on := 14, ground := Ground.phase }], guard := none }) (v := ?_) rfl (by kernel_rfl) (by kernel_rfl) (by kernel_rfl) (fun _ _ _ h => h) (Or.inl ⟨by rfl, ?_⟩) (by assumption) ?_
              rotate_left 1
              · (intro W hSw; obtain ⟨hSw0, hSw1, hSw2⟩ := hSw; go_simp; try with_reducible rfl)
              (try simp only [Act.put, List.setIfInBounds_toArray, List.set_cons_zero, List.set_cons_succ])
              refine wpAnyH_take (i := 16) (oi := { dst := some 103, op := Op.fieldAddr 35 (Operand.tmp 102) 3, type := 0, pos := "law.go:52", after := #[{ on := 15, ground := Ground.data }, { on := 0, ground := Ground.phase }, { on := 1, ground := Ground.phase }, { on := 2, ground := Ground.phase }, { on := 3, ground := Ground.phase }, { on := 4, ground := Ground.phase }, { on := 5, ground := Ground.phase }, { on := 6, ground := Ground.phase }, { on := 7, ground := Ground.phase }, { on := 8, ground := Ground.phase }, { on := 9, ground := Ground.phase }, { on := 10, ground := Ground.phase }, { on := 11, ground := Ground.phase }, { on := 12, ground := Ground.phase }, { on := 13, ground := Ground.phase }, { on := 14, ground := Ground.phase }], guard := none }) (v := ?_) rfl (by kernel_rfl) (by kernel_rfl) (by kernel_rfl) (fun _ _ _ h => h) (Or.inl ⟨by rfl, ?_⟩) (by assumption) ?_
              rotate_left 1
              · (intro W hSw; obtain ⟨hSw0, hSw1, hSw2⟩ := hSw; go_simp; try with_reducible rfl)
              (try simp only [Act.put, List.setIfInBounds_toArray, List.set_cons_zero, List.set_cons_succ])
              refine wpAnyH_ready (rs := [17]) (by kernel_rfl) (by simp) ?_
              refine AllReadyH.cons (o := { dst := none, op := Op.store 3 (Operand.tmp 103) (Operand.tmp 99), type := 0, pos := "law.go:52", after := #[{ on := 16, ground := Ground.data }, { on := 11, ground := Ground.data }, { on := 14, ground := Ground.chain }, { on := 0, ground := Ground.phase }, { on := 1, ground := Ground.phase }, { on := 2, ground := Ground.phase }, { on := 3, ground := Ground.phase }, { on := 4, ground := Ground.phase }, { on := 5, ground := Ground.phase }, { on := 6, ground := Ground.phase }, { on := 7, ground := Ground.phase }, { on := 8, ground := Ground.phase }, { on := 9, ground := Ground.phase }, { on := 10, ground := Ground.phase }, { on := 11, ground := Ground.phase }, { on := 12, ground := Ground.phase }, { on := 13, ground := Ground.phase }, { on := 14, ground := Ground.phase }], guard := none }) rfl (fun K hK => ?_) AllReadyH.nil
              · go_simp
                refine hK.out _ _ (by first | assumption | exact hS0 | exact hS9 | exact HSK.out _ _ | exact HSKd.out _ _ | exact HSK2.out _ _ _ _ | exact HSK2d.out _ _ _ _) (fun hHeld => ?_)
                clear hK K
                (try simp only [Act.put, List.setIfInBounds_toArray, List.set_cons_zero, List.set_cons_succ])
                refine wpAnyH_done (by kernel_rfl) ?_ _
                refine NoPanic.normal ?_
                go_wp2_with fail
                all_goals
                  go_roundg (L.length - (i + 1))
                  case rel => exact ⟨_, i + 1, { a with ts := l ++ [{ t with d := t.d ++ bb, p := p }] }, .slice (some ⟨G, 0, none⟩) (l.length + 1) cG, rfl, by omega, Nat.le_refl _, by simp, by first | rfl | (simp [hop]), by first | rfl | (simp [hov]), (by first | exact hGn' | exact hGn'.out.drew), hAn, by show _ ≤ _; simp only [List.length_append, List.length_cons, List.length_nil]; omega, hHn, hDn⟩
                  case measure => omega
      | fin p =>
        have hc : W.rangeAt GE (i * 14) [.int .i64 3, .string ⟨#[]⟩, .string ⟨#[]⟩, .int .i64 0, .int .i64 0, .int .i64 0, .int .i64 0, .int .i64 0, .int .i64 0, .string ⟨#[]⟩, .string ⟨#[]⟩, .slice none 0 0, .nilIface, .int .i64 (p : Int)] := fun j u hj => hcell j u (by simpa [evCells, zero10] using hj)
        have hov : a.ov = false := by have := HAR.out; simp only [Pu.arc] at this; cases h : a.ov with | false => rfl | true => simp [h] at this
        have hop : a.op = true := by have := HAR.out; simp only [Pu.arc, hov] at this; cases h : a.op with | true => rfl | false => simp [h] at this
        obtain ⟨l, t, hts, htw⟩ := hHf.out hop
        have hAn : Hid (Pu.arcs { a with ts := l ++ [{ t with wh := true, p := p }], op := false } ((L.map (·.1)).drop (i + 1)) = some aE) := by show _ = _; have := HAR.out; simp only [Pu.arc, hov, hop, hts, Pu.chLast_snoc] at this; simpa [hov] using this
        have hDn : Hid (∀ u ∈ l ++ [({ t with wh := true, p := p } : ThE)], u.d.length ≤ (K0 + (i + 1)) * 100000) := fun u hu => by
          rcases List.mem_append.1 hu with hu | hu
          · exact Nat.le_trans (hDl.out u (by rw [hts]; exact List.mem_append_left _ hu)) (by omega)
          · obtain rfl := List.mem_singleton.1 hu
            have := hDl.out t (by rw [hts]; simp)
            exact Nat.le_trans this (by omega)
        have hHn : Hid (Pu.Half { a with ts := l ++ [{ t with wh := true, p := p }], op := false }) := fun z => by cases z
        have hlT : a.ts.length = l.length + 1 := by rw [hts]; simp
        have hTl' := hTl.out
        rcases id hGa.out.row.2 with ⟨e1, e2⟩ | ⟨G, cG, curG, e1, eB2, e3, e4', e5', e6, e7⟩
        · omega
        subst e1
        rw [hlT] at hb0 hbx
        have hGW := lt_of_heap e3
        have hGg : G ≠ ga := fun e => hGa.out.ne (by rw [e]; rfl)
        have hLC : ∀ j u, (thCells t)[j]? = some u → W.cell? ⟨G, l.length * 13 + j, none⟩ = some u := fun j u hj => by
          have hr := hGa.out.row
          unfold ThS at hr
          rw [hts] at hr
          exact last_cells hr j u hj
        have l10 := hLC 10 (.string (strB t.d)) (by simp [thCells, E.En.cells])
        have l11 := hLC 11 (.bool t.wh) (by simp [thCells, E.En.cells])
        have l12 := hLC 12 (.int .i64 (t.p : Int)) (by simp [thCells, E.En.cells])
        have hfG : ∀ n, W.frozen? ⟨G, n, none⟩ = false := fun n => by simp [World.frozen?, e3]
        have hm1 : l.length ≤ 1000000 := by have := HLEN.out; omega
        have hc' : W.rangeAt GE (i * 14) [.int .i64 3, .string ⟨#[]⟩, .string ⟨#[]⟩, .int .i64 0, .int .i64 0, .int .i64 0, .int .i64 0, .int .i64 0, .int .i64 0, .string ⟨#[]⟩, .string ⟨#[]⟩, .slice none 0 0, .nilIface, .int .i64 (p : Int)] := hc
        obtain ⟨Wx, hWx⟩ : ∃ Wx, Wx = W.alloc (.cells #[.int .i64 3, .string ⟨#[]⟩, .string ⟨#[]⟩, .int .i64 0, .int .i64 0, .int .i64 0, .int .i64 0, .int .i64 0, .int .i64 0, .string ⟨#[]⟩, .string ⟨#[]⟩, .slice none 0 0, .nilIface, .int .i64 (p : Int)] 44) := ⟨_, rfl⟩
        have bX : Below W.heap.size W Wx := by rw [hWx]; exact (Below.refl W.heap.size W).alloc (Nat.le_refl _) _
        have gX := hGa.out.below bX
        have x13 : Wx.cell? ⟨W.heap.size, 13, none⟩ = some (.int .i64 (p : Int)) := by rw [hWx]; simp [World.cell?_alloc_new]
        have m11 : Wx.cell? ⟨G, l.length * 13 + 11, none⟩ = some (.bool t.wh) := (bX.cell (p := ⟨G, _, none⟩) hGW).trans l11
        have m12 : Wx.cell? ⟨G, l.length * 13 + 12, none⟩ = some (.int .i64 (t.p : Int)) := (bX.cell (p := ⟨G, _, none⟩) hGW).trans l12
        have mfz : ∀ n, Wx.frozen? ⟨G, n, none⟩ = false := fun n => by have := bX.block G hGW; simp [World.frozen?, this, e3]
        have hne : W.heap.size ≠ G := by omega
        have hne2 : G ≠ W.heap.size := by omega
        have hS1 : ∀ j v, (Wx.setCell ⟨G, j, none⟩ v).drew.cell? ⟨W.heap.size, 13, none⟩ = some (.int .i64 (p : Int)) := fun j v => (World.cell?_setCell_far Wx ⟨G, j, none⟩ ⟨W.heap.size, 13, none⟩ v (by omega)).trans x13
        have HS1 : Hid _ := hS1
        clear hS1
        have hS0 : Wx.cell? ⟨W.heap.size, 13, none⟩ = some (.int .i64 (p : Int)) := x13
        have hGn := (gX.two (b := { a with ts := l ++ [{ t with wh := true, p := p }], op := false }) rfl (l.length * 13 + 11) (l.length * 13 + 12) (.bool true) (.int .i64 (p : Int)) (by rw [hts]; exact last_two l t 11 12 _ _ (by simp [thCells, E.En.cells])) (by rw [hlT]; simp) rfl rfl rfl)
        have HWX : Hid (Wx = W.alloc (.cells #[.int .i64 3, .string ⟨#[]⟩, .string ⟨#[]⟩, .int .i64 0, .int .i64 0, .int .i64 0, .int .i64 0, .int .i64 0, .int .i64 0, .string ⟨#[]⟩, .string ⟨#[]⟩, .slice none 0 0, .nilIface, .int .i64 (p : Int)] 44)) := hWx
        clear hWx
        rw [hlT] at hGn
        have hTl2 : l.length + 1 ≤ a0.ts.length + i := by omega
        have hGn' : Hid _ := hGn
        have HLC : Hid _ := hLC
        have HBX : Hid _ := hbx
        rw [hov, hop]
        clear hcell HAR HDX hGn gX hLC e3 e4' e5' e6 e7 eB2 hlT hTl' hbx hts htw
        go_upto_region 31 with (refine wpList_load_mid rfl 44 _ rfl GE _ rfl [.int .i64 3, .string ⟨#[]⟩, .string ⟨#[]⟩, .int .i64 0, .int .i64 0, .int .i64 0, .int .i64 0, .int .i64 0, .int .i64 0, .string ⟨#[]⟩, .string ⟨#[]⟩, .slice none 0 0, .nilIface, .int .i64 (p : Int)] _ hc Tryz.underlying44 rfl hsiE ?_)
        rw [← HWX.out]
        clear l11 l12 hfG HWX
        go_region_held3 (fun W' => (W'.cell? ⟨W.heap.size, 13, none⟩ = some (.int .i64 (p : Int)))) (first | assumption | exact hS0 | exact HS1.out _ _ | go_keep) (fail)
        go_wp2_with fail
        all_goals
          go_roundg (L.length - (i + 1))
          case rel => exact ⟨_, i + 1, { a with ts := l ++ [{ t with wh := true, p := p }], op := false }, .slice (some ⟨G, 0, none⟩) (l.length + 1) cG, rfl, by omega, Nat.le_refl _, by simp, by first | rfl | (simp [hop]), by first | rfl | (simp [hov]), (by first | exact hGn' | exact hGn'.out.drew), hAn, by show _ ≤ _; simp only [List.length_append, List.length_cons, List.length_nil]; omega, hHn, hDn⟩
          case measure => omega
      | don p =>
        have hc : W.rangeAt GE (i * 14) [.int .i64 4, .string ⟨#[]⟩, .string ⟨#[]⟩, .int .i64 0, .int .i64 0, .int .i64 0, .int .i64 0, .int .i64 0, .int .i64 0, .string ⟨#[]⟩, .string ⟨#[]⟩, .slice none 0 0, .nilIface, .int .i64 (p : Int)] := fun j u hj => hcell j u (by simpa [evCells, zero10] using hj)
        have hov : a.ov = false := by have := HAR.out; simp only [Pu.arc] at this; cases h : a.ov with | false => rfl | true => simp [h] at this
        have hAn : Hid (Pu.arcs { a with dn := true, ov := true } ((L.map (·.1)).drop (i + 1)) = some aE) := by show _ = _; have := HAR.out; simpa [Pu.arc, hov] using this
        have hHn : Hid (Pu.Half { a with dn := true, ov := true }) := hHf.out
        have hGn := (hGa.out.put (b := { a with dn := true, ov := true }) 1 (.bool true) (by simp) rfl).below ((Below.refl (W.setCell ⟨ga, 1, none⟩ (.bool true)).heap.size (W.setCell ⟨ga, 1, none⟩ (.bool true))).alloc (Nat.le_refl _) (.cells #[.int .i64 4, .string ⟨#[]⟩, .string ⟨#[]⟩, .int .i64 0, .int .i64 0, .int .i64 0, .int .i64 0, .int .i64 0, .int .i64 0, .string ⟨#[]⟩, .string ⟨#[]⟩, .slice none 0 0, .nilIface, .int .i64 (p : Int)] 44))
        have hGn' : Hid _ := hGn
        rw [hov]
        clear hcell hGn HAR HDX
        go_wp2_with (refine wpList_load_mid rfl 44 _ rfl GE _ rfl [.int .i64 4, .string ⟨#[]⟩, .string ⟨#[]⟩, .int .i64 0, .int .i64 0, .int .i64 0, .int .i64 0, .int .i64 0, .int .i64 0, .string ⟨#[]⟩, .string ⟨#[]⟩, .slice none 0 0, .nilIface, .int .i64 (p : Int)] _ hc Tryz.underlying44 rfl hsiE ?_)
        go_roundg (L.length - (i + 1))
        case rel => exact ⟨_, i + 1, { a with dn := true, ov := true }, tv2, rfl, by omega, Nat.le_refl _, by simp, rfl, rfl, hGn', hAn, Nat.le_succ_of_le hTl.out, hHn, fun u hu => Nat.le_trans (hDl.out u hu) (by omega)⟩
        case measure => omega
      | bad c q p =>
        obtain ⟨ct, cx, hx⟩ := F.chain_form c [q]
        have hc : W.rangeAt GE (i * 14) [.int .i64 5, .string ⟨#[]⟩, .string ⟨#[]⟩, .int .i64 0, .int .i64 0, .int .i64 0, .int .i64 0, .int .i64 0, .int .i64 0, .string ⟨#[]⟩, .string ⟨#[]⟩, .slice none 0 0, .iface ct cx, .int .i64 (p : Int)] := fun j u hj => hcell j u (by rw [← hx] at hj; simpa [evCells, zero10] using hj)
        have hov : a.ov = false := by have := HAR.out; simp only [Pu.arc] at this; cases h : a.ov with | false => rfl | true => simp [h] at this
        have hAn : Hid (Pu.arcs { a with ov := true, code := c, place := q } ((L.map (·.1)).drop (i + 1)) = some aE) := by show _ = _; have := HAR.out; simpa [Pu.arc, hov] using this
        have hL1 : F.Laid W := ⟨by have := hGa.out.sz; have := HL.out.1; omega, by have := HL.out.2; simp only [World.cell?] at this ⊢; rw [hGa.out.mv.block 7 HL.out.1 (fun z => by rcases z with z | z; omega; have := HLT.out _ z; omega)]; exact this⟩
        have hLx := hL1.alloc (.cells #[.int .i64 5, .string ⟨#[]⟩, .string ⟨#[]⟩, .int .i64 0, .int .i64 0, .int .i64 0, .int .i64 0, .int .i64 0, .int .i64 0, .string ⟨#[]⟩, .string ⟨#[]⟩, .slice none 0 0, .iface ct cx, .int .i64 (p : Int)] 44)
        have qc := F.code_any (some [q]) c (W.alloc (.cells #[.int .i64 5, .string ⟨#[]⟩, .string ⟨#[]⟩, .int .i64 0, .int .i64 0, .int .i64 0, .int .i64 0, .int .i64 0, .int .i64 0, .string ⟨#[]⟩, .string ⟨#[]⟩, .slice none 0 0, .iface ct cx, .int .i64 (p : Int)] 44)) hLx
        have HX : Hid (F.chain c [q] = .iface ct cx) := hx
        have HG1 : Hid _ := hGa.out.below ((Below.refl W.heap.size W).alloc (Nat.le_refl _) (.cells #[.int .i64 5, .string ⟨#[]⟩, .string ⟨#[]⟩, .int .i64 0, .int .i64 0, .int .i64 0, .int .i64 0, .int .i64 0, .int .i64 0, .string ⟨#[]⟩, .string ⟨#[]⟩, .slice none 0 0, .iface ct cx, .int .i64 (p : Int)] 44))
        have hx12 : (W.alloc (.cells #[.int .i64 5, .string ⟨#[]⟩, .string ⟨#[]⟩, .int .i64 0, .int .i64 0, .int .i64 0, .int .i64 0, .int .i64 0, .int .i64 0, .string ⟨#[]⟩, .string ⟨#[]⟩, .slice none 0 0, .iface ct cx, .int .i64 (p : Int)] 44)).cell? ⟨W.heap.size, 12, none⟩ = some (.iface ct cx) := by simp [World.cell?_alloc_new]
        have hxs : W.heap.size < (W.alloc (.cells #[.int .i64 5, .string ⟨#[]⟩, .string ⟨#[]⟩, .int .i64 0, .int .i64 0, .int .i64 0, .int .i64 0, .int .i64 0, .int .i64 0, .string ⟨#[]⟩, .string ⟨#[]⟩, .slice none 0 0, .iface ct cx, .int .i64 (p : Int)] 44)).heap.size := by simp
        generalize hWx : W.alloc (.cells #[.int .i64 5, .string ⟨#[]⟩, .string ⟨#[]⟩, .int .i64 0, .int .i64 0, .int .i64 0, .int .i64 0, .int .i64 0, .int .i64 0, .string ⟨#[]⟩, .string ⟨#[]⟩, .slice none 0 0, .iface ct cx, .int .i64 (p : Int)] 44) = Wx at *
        have hx12' := hx12
        have HMx : Hid (∀ W2, Mv (fun k => k = ga) Wx W2 → F.Laid W2 ∧ W2.cell? ⟨W.heap.size, 12, none⟩ = some (.iface ct cx)) := fun W2 b => by
          have e7 := b.block 7 hLx.1 (by omega)
          have ex := b.block W.heap.size hxs (by omega)
          refine ⟨⟨Nat.lt_of_lt_of_le hLx.1 b.size, ?_⟩, ?_⟩
          · have := hLx.2
            simp only [World.cell?] at this ⊢
            rw [e7]; exact this
          · have := hx12
            simp only [World.cell?] at this ⊢
            rw [ex]; exact this
        have HMp : Hid (∀ (W2 : World) j v, (W2.cell? ⟨W.heap.size, 12, none⟩ = some (.iface ct cx) ∧ Mv (fun k => k = ga) Wx W2) → ((W2.setCell ⟨ga, j, none⟩ v).drew.cell? ⟨W.heap.size, 12, none⟩ = some (.iface ct cx) ∧ Mv (fun k => k = ga) Wx (W2.setCell ⟨ga, j, none⟩ v).drew)) := fun W2 j v b => by
          have b := b.2
          have m : Mv (fun k => k = ga) Wx (W2.setCell ⟨ga, j, none⟩ v).drew := ⟨b.os, b.tape, b.output, by have := b.size; simpa [World.setCell] using this, fun k hk hn => by
            rw [← b.block k hk hn]
            show (W2.setCell ⟨ga, j, none⟩ v).heap[k]? = _
            simp [World.setCell, Array.getElem?_modify, Ne.symm hn]⟩
          exact ⟨(HMx.out _ m).2, m⟩
        have HMq : Hid (∀ (W2 : World) j v, (W2.cell? ⟨W.heap.size, 12, none⟩ = some (.iface ct cx) ∧ Mv (fun k => k = ga) Wx W2) → ((W2.setCell ⟨ga, j, none⟩ v).cell? ⟨W.heap.size, 12, none⟩ = some (.iface ct cx) ∧ Mv (fun k => k = ga) Wx (W2.setCell ⟨ga, j, none⟩ v))) := fun W2 j v b => by
          have m := HMp.out W2 j v b
          exact ⟨m.1, ⟨m.2.os, m.2.tape, m.2.output, m.2.size, m.2.block⟩⟩
        have HMb : Hid (∀ (W2 W3 : World), (W2.cell? ⟨W.heap.size, 12, none⟩ = some (.iface ct cx) ∧ Mv (fun k => k = ga) Wx W2) → Below W2.heap.size W2 W3 → (W3.cell? ⟨W.heap.size, 12, none⟩ = some (.iface ct cx) ∧ Mv (fun k => k = ga) Wx W3)) := fun W2 W3 b k => by
          have b := b.2
          have m : Mv (fun k => k = ga) Wx W3 := b.trans (Mv.of_below (O := fun k => k = ga) k) (fun x hx => .inl hx)
          exact ⟨(HMx.out _ m).2, m⟩
        have HQC : Hid (∀ (W2 : World), (W2.cell? ⟨W.heap.size, 12, none⟩ = some (.iface ct cx) ∧ Mv (fun k => k = ga) Wx W2) → Calls Tryz.prog 18 #[.iface ct cx] W2 fun ev w' => ev = .returned (.int .i64 c) ∧ Below W2.heap.size W2 w') := fun W2 b => by rw [← hx]; exact F.code_any (some [q]) c W2 (HMx.out _ b.2).1
        have HQP : Hid (∀ (W2 : World), (W2.cell? ⟨W.heap.size, 12, none⟩ = some (.iface ct cx) ∧ Mv (fun k => k = ga) Wx W2) → Calls Tryz.prog 19 #[.iface ct cx] W2 fun ev w' => ev = .returned (.int .i64 q) ∧ Below W2.heap.size W2 w') := fun W2 b => by rw [← hx]; exact F.place_any (some [q]) c W2 (HMx.out _ b.2).1
        have HM0 : Hid (Mv (fun k => k = ga) Wx Wx.drew) := ⟨rfl, rfl, rfl, Nat.le_refl _, fun _ _ _ => rfl⟩
        have hS0 : (Wx.cell? ⟨W.heap.size, 12, none⟩ = some (.iface ct cx) ∧ Mv (fun k => k = ga) Wx Wx) := ⟨hx12, Mv.refl _ _⟩
        have hS1 : (Wx.drew.cell? ⟨W.heap.size, 12, none⟩ = some (.iface ct cx) ∧ Mv (fun k => k = ga) Wx Wx.drew) := ⟨hx12, HM0.out⟩
        have HGB : Hid (∀ W2, Below Wx.heap.size Wx W2 → ∃ _ : Ga W1 W2 ga tv tv2 a, (∀ n, W2.frozen? ⟨ga, n, none⟩ = false) ∧ W2.cell? ⟨ga, 2, none⟩ = some (.int .i64 a.code) ∧ W2.cell? ⟨ga, 3, none⟩ = some (.int .i64 a.place)) := fun W2 b => by
          have g2 := HG1.out.below b
          have bx2 := g2.box
          exact ⟨g2, fun n => by simp [World.frozen?, bx2], by simp [World.cell?, bx2], by simp [World.cell?, bx2]⟩
        have HHf : Hid (Pu.Half { a with ov := true, code := c, place := q }) := hHf.out
        rw [hov]
        have HWX : Hid _ := hWx
        clear hcell HAR HDX qc hLx hWx
        go_upto_region 36 with (refine wpList_load_mid rfl 44 _ rfl GE _ rfl [.int .i64 5, .string ⟨#[]⟩, .string ⟨#[]⟩, .int .i64 0, .int .i64 0, .int .i64 0, .int .i64 0, .int .i64 0, .int .i64 0, .string ⟨#[]⟩, .string ⟨#[]⟩, .slice none 0 0, .iface ct cx, .int .i64 (p : Int)] _ hc Tryz.underlying44 rfl hsiE ?_)
        rw [HWX.out]
        go_region_held3 (fun W' => (W'.cell? ⟨W.heap.size, 12, none⟩ = some (.iface ct cx) ∧ Mv (fun k => k = ga) Wx W')) (first | assumption | exact hS0 | exact hS1 | exact hS5 | exact hS6 | exact HMq.out _ _ _ hS6 | exact HMp.out _ _ _ hS6 | exact HMq.out _ _ _ (by assumption) | go_keep) ((first
          | (go_at_call 18; refine (HQC.out _ (by assumption)).mono ?_; rintro e w5 ⟨rfl, b5⟩; have hS5 := HMb.out _ _ (by assumption) b5; have hB5 : Below Wx.heap.size Wx w5 := ⟨b5.os, b5.tape, b5.output, b5.size, b5.block⟩; obtain ⟨g5, z5, y2, y3⟩ := HGB.out w5 hB5)
          | (go_at_call 19; refine (HQP.out _ (by assumption)).mono ?_; rintro e w6 ⟨rfl, b6⟩; have hS6 := HMb.out _ _ (by assumption) b6; have hB6 : Below Wx.heap.size Wx w6 := hB5.trans (Below.mono ⟨b6.os, b6.tape, b6.output, b6.size, b6.block⟩ hB5.size); obtain ⟨g6, z6, k2, k3⟩ := HGB.out w6 hB6)))
        go_wp2_with fail
        all_goals
          have hGn := (g6.put (b := { a with code := c }) 2 (.int .i64 c) (by simp) rfl).put (b := { a with ov := true, code := c, place := q }) 3 (.int .i64 q) (by simp) rfl
          go_roundg (L.length - (i + 1))
          case rel => exact ⟨_, i + 1, { a with ov := true, code := c, place := q }, tv2, rfl, by omega, Nat.le_refl _, by simp, rfl, rfl, (by first | exact hGn | exact hGn.drew), hAn, Nat.le_succ_of_le hTl.out, HHf, fun u hu => Nat.le_trans (hDl.out u hu) (by omega)⟩
          case measure => omega
    · have hie : i = L.length := by omega
      subst hie
      have hAr' := hAr.out
      rw [List.drop_eq_nil_of_le (by simp)] at hAr'
      simp only [Pu.arcs, Option.some.injEq] at hAr'
      subst hAr'
      have HF := fun (r5 : Value) (r14 : Value) (r15 : Value) (r16 : Value) (r47 : Value) (r48 : Value) (r49 : Value) (r50 : Value) (r51 : Value) (r52 : Value) (r53 : Value) (r54 : Value) (r55 : Value) (r56 : Value) (r57 : Value) (r58 : Value) (r59 : Value) (r60 : Value) (r61 : Value) (r62 : Value) (r63 : Value) (r64 : Value) (r65 : Value) (r66 : Value) (r67 : Value) (r68 : Value) (r69 : Value) (r70 : Value) (r71 : Value) (r72 : Value) (r73 : Value) (r74 : Value) (r75 : Value) (r76 : Value) (r77 : Value) (r78 : Value) (r79 : Value) (r80 : Value) (r81 : Value) (r82 : Value) (r83 : Value) (r84 : Value) (r85 : Value) (r86 : Value) (r87 : Value) (r88 : Value) (r89 : Value) (r90 : Value) (r91 : Value) (r92 : Value) (r93 : Value) (r94 : Value) (r95 : Value) (r96 : Value) (r97 : Value) (r98 : Value) (r99 : Value) (r100 : Value) (r101 : Value) (r102 : Value) (r103 : Value) (r104 : Value) (r105 : Value) (r106 : Value) (r107 : Value) (r108 : Value) (r109 : Value) (r110 : Value) (r111 : Value) (r112 : Value) (r113 : Value) (r114 : Value) (r115 : Value) (r116 : Value) (r117 : Value) (r118 : Value) (r119 : Value) (r120 : Value) (r121 : Value) (r122 : Value) (r123 : Value) (r124 : Value) (r125 : Value) (r126 : Value) (r127 : Value) (r128 : Value) (r129 : Value) (r130 : Value) (r131 : Value) (r132 : Value) (r133 : Value) (r134 : Value) (r135 : Value) (r136 : Value) (r137 : Value) => HQ.out r5 r14 r15 r16 r47 r48 r49 r50 r51 r52 r53 r54 r55 r56 r57 r58 r59 r60 r61 r62 r63 r64 r65 r66 r67 r68 r69 r70 r71 r72 r73 r74 r75 r76 r77 r78 r79 r80 r81 r82 r83 r84 r85 r86 r87 r88 r89 r90 r91 r92 r93 r94 r95 r96 r97 r98 r99 r100 r101 r102 r103 r104 r105 r106 r107 r108 r109 r110 r111 r112 r113 r114 r115 r116 r117 r118 r119 r120 r121 r122 r123 r124 r125 r126 r127 r128 r129 r130 r131 r132 r133 r134 r135 r136 r137 W tv2 hGa.out
      have HF' : Hid _ := HF
      clear HF hAr hGa HQ
      go_wp2
      exact HF'.out _ _ _ _ _ _ _ _ _ _ _ _ _ _ _ _ _ _ _ _ _ _ _ _ _ _ _ _ _ _ _ _ _ _ _ _ _ _ _ _ _ _ _ _ _ _ _ _ _ _ _ _ _ _ _ _ _ _ _ _ _ _ _ _ _ _ _ _ _ _ _ _ _ _ _ _ _ _ _ _ _ _ _ _ _ _ _ _ _ _ _ _ _ _ _
end Go.Proofs.YtnmmaedngdibeaaGreatDoor

namespace Go.Proofs.YtnmmaedngdibeaaGreatDoor
open Go.RowKit
set_option linter.unusedVariables false
set_option linter.unusedSimpArgs false

/-- numbers that lie somewhere -/
def RIn (k : IntKind) (W : World) (v : Value) (ks : List Int) : Prop :=
  (v = .slice none 0 0 ∧ ks = []) ∨ ∃ (ad : Addr) (c : Nat), v = .slice (some ad) ks.length c ∧ ks.length ≤ c ∧ c ≤ 9223372036854775807 ∧ ∀ j u, (ks.map fun z => Value.int k z)[j]? = some u → W.cell? (ad.add j) = some u

theorem RIn.moved {k : IntKind} {W W' : World} {v : Value} {ks : List Int} (h : RIn k W v ks) (b : ∀ p u, W.cell? p = some u → W'.cell? p = some u) : RIn k W' v ks := by
  rcases h with h | ⟨ad, c, h1, h2, h3, h4⟩
  · exact .inl h
  · exact .inr ⟨ad, c, h1, h2, h3, fun j u hj => b _ _ (h4 j u hj)⟩
theorem RIn.below {k : IntKind} {W W' : World} {v : Value} {ks : List Int} (h : RIn k W v ks) (b : Below W.heap.size W W') : RIn k W' v ks :=
  h.moved fun p u hp => (b.cell (World.block_lt_of_cell? _ _ hp)).trans hp
theorem RIn.sl {k : IntKind} {W : World} {v : Value} {ks : List Int} (h : RIn k W v ks) : ∃ ad c, v = .slice ad ks.length c := by
  rcases h with ⟨h, rfl⟩ | ⟨ad, c, h1, h2, h3, h4⟩
  · exact ⟨_, _, h⟩
  · exact ⟨_, _, h1⟩
theorem RIn.some {k : IntKind} {W : World} {v : Value} {ks : List Int} (h : RIn k W v ks) (hn : ks ≠ []) : ∃ B o c, v = .slice (some ⟨B, o, none⟩) ks.length c ∧ ks.length ≤ c ∧ c ≤ 9223372036854775807 ∧ B < W.heap.size ∧ ∀ j u, (ks.map fun z => Value.int k z)[j]? = some u → W.cell? ⟨B, o + j, none⟩ = some u := by
  rcases h with ⟨h, e⟩ | ⟨ad, c, h1, h2, h3, h4⟩
  · exact absurd e hn
  · obtain ⟨a, r, rfl⟩ := List.exists_cons_of_ne_nil hn
    obtain ⟨B, o, spot⟩ := ad
    have c0 := h4 0 _ rfl
    have hs : spot = none := by simpa [Addr.add] using World.cell?_spot c0
    subst hs
    refine ⟨B, o, c, h1, h2, h3, ?_, fun j u hj => by rw [← add_at]; exact h4 j u hj⟩
    have := World.block_lt_of_cell? _ _ c0
    rw [add_at] at this
    exact this
theorem cells_map (zs : List Int) : H.cellsOf zs = zs.map fun z => Value.int .u8 z := by simp [H.cellsOf]

/-- v[0:0] -/
theorem run_zero (w : World) (ad : Addr) (cap : Nat) : (Instr.sliceAt 22 (.slice (some ad) 0 cap) (some (.int .i64 0)) (some (.int .i64 0)) none).run Tryz.prog w = .ok (.slice (some (if cap = 0 then ad else ad.add 0)) 0 cap) w := by
  rw [run_sliceAt_slice w 22 _ _ _ _ (by rw [X.elem36]; exact Tryz.underlying22)]
  have hi := X.info5
  cases hq : Tryz.prog.info? 5 with
  | none => simp [hq] at hi
  | some i =>
    have hs : i.size = 1 := by simpa [hq] using hi
    have hb : (Instr.sliceBound (.int .i64 0) cap .sliceAcap).run Tryz.prog w = .ok 0 w := by
      have := run_sliceBound (P := Tryz.prog) w .i64 0 cap .sliceAcap (by omega) (by omega)
      simpa using this
    have hb2 : (Instr.sliceBound (.int .i64 0) 0 .sliceB).run Tryz.prog w = .ok 0 w := by
      have := run_sliceBound (P := Tryz.prog) w .i64 0 0 .sliceB (by omega) (by omega)
      simpa using this
    by_cases c0 : cap = 0
    · subst c0
      simp [Instr.slice, run_underlying Tryz.underlying22, Instr.sliceBounds, sizeOf, typeInfo, hq, hs, hb, hb2]
    · simp [Instr.slice, run_underlying Tryz.underlying22, Instr.sliceBounds, sizeOf, typeInfo, hq, hs, hb, hb2, c0]

/-- b[lo:hi], whatever lies there -/
theorem piece_run {W : World} {v : Value} {zs : List Int} (h : RIn .u8 W v zs) (c n : Nat) (hn : c + n ≤ zs.length) :
    ∃ ad cc, (∀ w : World, (Instr.sliceAt 22 v (some (.int .i64 (c : Int))) (some (.int .i64 ((c : Int) + (n : Int)))) none).run Tryz.prog w = .ok (.slice ad n cc) w) ∧
      (n = 0 ∨ ∃ B o, ad = some ⟨B, o, none⟩ ∧ B < W.heap.size ∧ Bs W B o ((zs.drop c).take n) ∧ n ≤ cc ∧ cc ≤ 9223372036854775807) := by
  by_cases hz : zs = []
  · subst hz
    obtain rfl : c = 0 := by simp at hn; omega
    obtain rfl : n = 0 := by simpa using hn
    rcases h with ⟨rfl, _⟩ | ⟨ad, cap, rfl, _, _, _⟩
    · exact ⟨none, 0, fun w => run_range_nil w, .inl rfl⟩
    · exact ⟨_, cap, fun w => run_zero w ad cap, .inl rfl⟩
  · obtain ⟨B, o, cap, rfl, h2, h3, h4, h5⟩ := h.some hz
    refine ⟨X.lowAt B o cap c, cap - c, fun w => ?_, ?_⟩
    · have := run_range w B o zs.length cap c (c + n) (by omega) (by omega)
      rw [Nat.add_sub_cancel_left] at this
      rw [← this, Int.natCast_add]
    · by_cases n0 : n = 0
      · exact .inl n0
      · right
        have hcc : ¬ cap = c := by omega
        refine ⟨B, o + c, by simp [X.lowAt, hcc], h4, ?_, by omega, by omega⟩
        have hb : Bs W B o zs := fun j u hj => by
          rw [add_at]
          rw [cells_map] at hj
          exact h5 j u hj
        exact (hb.drop c).take n

/-- what one Feed tells holds only bytes, and not many -/
theorem take_dat (s : PsR) (b : List Int) {d : List Int} {p : Nat} (h : (.dat d p : EvE) ∈ (Pu.take (E := E.En) s b).2) : d = b := by
  unfold Pu.take at h
  simp only at h
  (repeat' split at h) <;> simp_all
theorem settle_dat {F0 : Pu.Fns E.Hd E.En Rec ByteArray} : ∀ (f : Nat) (s : PsR) {d : List Int} {p : Nat}, (.dat d p : EvE) ∈ (Pu.settle F0 f s).2 → False
  | 0, s, d, p, h => by simp [Pu.settle] at h
  | f + 1, s, d, p, h => by
    unfold Pu.settle at h
    split at h
    · simp only [List.mem_append] at h
      rcases h with h | h
      · unfold Pu.turn Pu.endHeader Pu.endBlank Pu.beginThing Pu.beginMeta Pu.endMeta at h
        simp only at h
        (repeat' split at h) <;> simp_all [Pu.fail]
      · exact settle_dat f _ h
    · simp at h
theorem feed_dat {F0 : Pu.Fns E.Hd E.En Rec ByteArray} : ∀ (f : Nat) (s : PsR) (b : List Int) {d : List Int} {p : Nat}, H.AllB b → (.dat d p : EvE) ∈ (Pu.feed F0 f s b).2 → H.AllB d ∧ d.length ≤ b.length
  | 0, s, b, d, p, hb, h => by simp [Pu.feed] at h
  | f + 1, s, b, d, p, hb, h => by
    unfold Pu.feed at h
    split at h
    · simp at h
    · simp only [List.mem_append] at h
      rcases h with (h | h) | h
      · obtain rfl := take_dat _ _ h
        exact ⟨fun z hz => hb z (List.mem_of_mem_take hz), by rw [List.length_take]; omega⟩
      · exact (settle_dat _ _ h).elim
      · obtain ⟨h1, h2⟩ := feed_dat f _ _ (fun z hz => hb z (List.mem_of_mem_drop hz)) h
        exact ⟨h1, by rw [List.length_drop] at h2; omega⟩

/-- what is gathered grows by as much as is told -/
theorem chLast_all {P : ThE → Prop} {f : ThE → ThE} (hf : ∀ t, P t → P (f t)) : ∀ {l : List ThE}, (∀ u ∈ l, P u) → ∀ u ∈ Pu.chLast f l, P u
  | [], h, u, hu => by simp [Pu.chLast] at hu
  | [a], h, u, hu => by
    simp [Pu.chLast] at hu
    subst hu
    exact hf _ (h a (by simp))
  | a :: b :: r, h, u, hu => by
    simp only [Pu.chLast, List.mem_cons] at hu
    rcases hu with rfl | hu
    · exact h _ (by simp)
    · exact chLast_all hf (l := b :: r) (fun x hx => h x (List.mem_cons_of_mem _ hx)) u hu
theorem arc_grows {a b : AcE} {e : EvE} (h : Pu.arc a e = some b) {D X : Nat} (hd : ∀ u ∈ a.ts, u.d.length ≤ D) (hx : ∀ d p, e = .dat d p → d.length ≤ X) : b.ts.length ≤ a.ts.length + 1 ∧ ∀ u ∈ b.ts, u.d.length ≤ D + X := by
  cases e with
  | bgn y p =>
    simp only [Pu.arc] at h
    split at h
    · cases h
    split at h
    · cases h
    cases h
    refine ⟨by simp, fun u hu => ?_⟩
    rcases List.mem_append.1 hu with hu | hu
    · exact Nat.le_trans (hd u hu) (by omega)
    · obtain rfl := List.mem_singleton.1 hu
      simp
  | dat d p =>
    simp only [Pu.arc] at h
    split at h
    · cases h
    split at h
    · cases h
    cases h
    refine ⟨by simp [Pu.chLast_length], ?_⟩
    have hxd := hx d p rfl
    have k : ∀ u ∈ a.ts, u.d.length ≤ D := hd
    clear hd
    intro u hu
    simp only at hu
    have hm : ∀ (l : List ThE), (∀ u ∈ l, u.d.length ≤ D) → ∀ u ∈ Pu.chLast (fun t => { t with d := t.d ++ d, p := p }) l, u.d.length ≤ D + X := by
      intro l
      induction l with
      | nil => intro _ u hu; simp [Pu.chLast] at hu
      | cons a r ih =>
        intro hl u hu
        cases r with
        | nil =>
          simp [Pu.chLast] at hu
          subst hu
          have := hl a (by simp)
          simp only [List.length_append]
          omega
        | cons b r =>
          simp only [Pu.chLast, List.mem_cons] at hu
          rcases hu with rfl | hu
          · exact Nat.le_trans (hl _ (by simp)) (by omega)
          · exact ih (fun x hx => hl x (List.mem_cons_of_mem _ hx)) u hu
    exact hm _ k u hu
  | fin p =>
    simp only [Pu.arc] at h
    split at h
    · cases h
    split at h
    · cases h
    cases h
    refine ⟨by simp [Pu.chLast_length], fun u hu => Nat.le_trans (chLast_all (P := fun t => t.d.length ≤ D) (f := fun t => { t with wh := true, p := p }) (fun t ht => ht) hd u hu) (by omega)⟩
  | don p =>
    simp only [Pu.arc] at h
    split at h
    · cases h
    cases h
    exact ⟨by simp, fun u hu => Nat.le_trans (hd u hu) (by omega)⟩
  | bad c q p =>
    simp only [Pu.arc] at h
    split at h
    · cases h
    cases h
    exact ⟨by simp, fun u hu => Nat.le_trans (hd u hu) (by omega)⟩
theorem arcs_grow : ∀ (l : List EvE) {a b : AcE} {D X : Nat}, Pu.arcs a l = some b → (∀ u ∈ a.ts, u.d.length ≤ D) → (∀ d p, (.dat d p : EvE) ∈ l → d.length ≤ X) → b.ts.length ≤ a.ts.length + l.length ∧ ∀ u ∈ b.ts, u.d.length ≤ D + l.length * X
  | [], a, b, D, X, h, hd, hx => by
    simp only [Pu.arcs, Option.some.injEq] at h
    subst h
    exact ⟨by simp, fun u hu => Nat.le_trans (hd u hu) (by simp)⟩
  | e :: r, a, b, D, X, h, hd, hx => by
    simp only [Pu.arcs] at h
    cases he : Pu.arc a e with
    | none => rw [he] at h; cases h
    | some m =>
      rw [he] at h
      obtain ⟨k1, k2⟩ := arc_grows he hd (X := X) (fun d p e => hx d p (by rw [e]; simp))
      obtain ⟨m1, m2⟩ := arcs_grow r h k2 (fun d p hm => hx d p (List.mem_cons_of_mem _ hm))
      refine ⟨by simp only [List.length_cons]; omega, fun u hu => Nat.le_trans (m2 u hu) ?_⟩
      simp only [List.length_cons, Nat.add_mul]
      omega

/-- a parser is fed a piece that lies somewhere, or nothing -/
theorem feedp_w {w : World} {g : Nat} {s : PsR} {kv gv lv : Value} (h : Pm w g s kv gv lv) (hR : Rok s) (hfit : Pu.Fit s) (hL : Lb w) (hG : ∀ k, Mine g kv gv lv k → 14 ≤ k) (ad : Option Addr) (cc n : Nat) (zs : List Int) (hn : zs.length = n) (hzb : H.AllB zs)
    (hz : n = 0 ∨ ∃ B o, ad = some ⟨B, o, none⟩ ∧ B < w.heap.size ∧ Bs w B o zs ∧ n ≤ cc ∧ cc ≤ 9223372036854775807 ∧ ¬ Mine g kv gv lv B) (hl : zs.length ≤ 100000) (hr : s.rd + zs.length ≤ 2305843009213693952) :
    Calls Tryz.prog 14 #[.pointer (some ⟨g, 0, none⟩), .slice ad n cc] w fun ev w' => ∃ v L, ev = .returned v ∧ Out w w' g kv gv lv (Pu.feed fns0 zs.length s zs).1 v L ∧ L.map (·.1) = (Pu.feed fns0 zs.length s zs).2 := by
  rcases hz with rfl | ⟨B, o, rfl, h1, h2, h3, h4, h5⟩
  · obtain rfl := List.eq_nil_of_length_eq_zero hn
    refine (feed_zero w g ad cc).mono ?_
    rintro e w' ⟨rfl, rfl⟩
    exact ⟨_, [], rfl, (On.start h).out, rfl⟩
  · subst hn
    exact feed_w fall0 h hR hfit hL hG B o cc zs h2 hzb h1 h5 h3 h4 hl hr

/-- what stands between two pieces -/
structure Fs (w1 W : World) (zs cs : List Int) (g ga : Nat) (i pos : Nat) (s : PsR) (kv gv lv tv : Value) (a : AcE) (Ne : Nat) : Prop where
  pm : Pm W g s kv gv lv
  rok : Rok s
  fit : Pu.Fit s
  box : W.heap[ga]? = some (.cells #[tv, .bool a.dn, .int .i64 a.code, .int .i64 a.place] 27 (0, 0))
  row : ThS W tv a.ts
  mv : Mv (fun k => k = g ∨ k = ga) w1 W
  mine : ∀ k, Mine g kv gv lv k → k = g ∨ w1.heap.size ≤ k
  tvb : ∀ k, tv.ownBlock = some k → w1.heap.size ≤ k ∧ ¬ Mine g kv gv lv k
  half : Pu.Half a
  posl : pos ≤ zs.length
  eq1 : (Pu.feeds fns0 s (pcs (zs.drop pos) (cs.drop i))).1 = (Pu.run fns0 (Pu.new fns0) zs).1
  eq2 : Pu.arcs a (Pu.feeds fns0 s (pcs (zs.drop pos) (cs.drop i))).2 = some (Pu.arch fns0 zs)
  len : a.ts.length ≤ Ne
  dl : ∀ u ∈ a.ts, u.d.length ≤ Ne * 100000
  ne : Ne ≤ 4 * pos
  rd : s.rd ≤ pos

section
variable {w1 W W1 W2 : World} {zs cs : List Int} {g ga i pos Ne : Nat} {s : PsR} {kv gv lv tv : Value} {a : AcE}

/-- how many bytes come next -/
def cutN (zs cs : List Int) (i pos : Nat) : Nat := (max 0 (min (cs.getD i 0) ((zs.length : Int) - (pos : Int)))).toNat
theorem cutN_le (h : pos ≤ zs.length) : pos + cutN zs cs i pos ≤ zs.length := by unfold cutN; omega
theorem cutN_int : (max 0 (min (cs.getD i 0) ((zs.length : Int) - (pos : Int)))) = ((cutN zs cs i pos : Nat) : Int) := by unfold cutN; omega
theorem pcs_step (hi : i < cs.length) (hp : pos ≤ zs.length) : pcs (zs.drop pos) (cs.drop i) = ((zs.drop pos).take (cutN zs cs i pos)) :: pcs (zs.drop (pos + cutN zs cs i pos)) (cs.drop (i + 1)) := by
  rw [List.drop_eq_getElem_cons hi]
  have e : (max 0 (min cs[i] ((zs.drop pos).length : Int))).toNat = cutN zs cs i pos := by
    unfold cutN
    have : cs.getD i 0 = cs[i] := by rw [List.getD_eq_getElem?_getD, List.getElem?_eq_getElem hi]; rfl
    rw [this, List.length_drop]
    omega
  simp only [pcs, e, List.drop_drop]

theorem Fs.start (w1 : World) (hpm : Pm w1 g (Pu.new fns0) (.slice none 0 0) (.slice none 0 0) (.slice none 0 0)) (hb : w1.heap[ga]? = some (.cells #[.slice none 0 0, .bool false, .int .i64 0, .int .i64 0] 27 (0, 0))) (cuts : List Int) :
    Fs w1 w1 zs (cuts ++ [(zs.length : Int)]) g ga 0 0 (Pu.new fns0) (.slice none 0 0) (.slice none 0 0) (.slice none 0 0) (.slice none 0 0) Pu.Ac.nil 0 := by
  obtain ⟨e1, e2, _⟩ := fed_arch zs cuts
  refine ⟨hpm, rok_new fall0, .inl (by show (512 : Nat) ≠ 0; omega), hb, ⟨rfl, .inl ⟨rfl, rfl⟩⟩, Mv.refl _ _, fun k hk => ?_, fun k hk => (by cases hk), fun h => (by cases h), Nat.zero_le _, ?_, ?_, Nat.le_refl _, fun u hu => (by cases hu), Nat.le_refl _, Nat.le_refl _⟩
  · rcases hk with hk | hk | hk | hk
    · exact .inl hk
    all_goals cases hk
  · simpa using e1
  · simpa using e2

theorem Fs.sz (h : Fs w1 W zs cs g ga i pos s kv gv lv tv a Ne) : w1.heap.size ≤ W.heap.size := h.mv.size
/-- blocks that don't move -/
theorem Fs.still (h : Fs w1 W zs cs g ga i pos s kv gv lv tv a Ne) {k : Nat} (hk : k < w1.heap.size) (h1 : k ≠ g) (h2 : k ≠ ga) : W.heap[k]? = w1.heap[k]? := h.mv.block k hk (fun e => by rcases e with e | e <;> omega)
/-- behind one piece -/
theorem Fs.next (h : Fs w1 W zs cs g ga i pos s kv gv lv tv a Ne) (hg : g < w1.heap.size) (hga : ga < w1.heap.size) (hgg : g ≠ ga) (hi : i < cs.length) {P : List Int} (hP : P = (zs.drop pos).take (cutN zs cs i pos)) (hAB : H.AllB zs) (hzl : zs.length ≤ 100000)
    {kv' gv' lv' v : Value} {L : List (EvE × Value)} (on : On W W1 g kv gv lv kv' gv' lv' (Pu.feed fns0 P.length s P).1 v L) (hm : L.map (·.1) = (Pu.feed fns0 P.length s P).2) :
    ∃ aE, Pu.arcs a (L.map (·.1)) = some aE ∧ ∀ (W2 : World) (tv2 : Value), Ga W1 W2 ga tv tv2 aE → Fs w1 W2 zs cs g ga (i + 1) (pos + cutN zs cs i pos) (Pu.feed fns0 P.length s P).1 kv' gv' lv' tv2 aE (Ne + L.length) := by
  have hPl : P.length = cutN zs cs i pos := by rw [hP, List.length_take, List.length_drop]; have := cutN_le (cs := cs) (i := i) h.posl; omega
  have e1 := h.eq1
  have e2 := h.eq2
  rw [pcs_step hi h.posl, ← hP] at e1 e2
  simp only [Pu.feeds] at e1 e2
  rw [Pu.arcs_append, ← hm] at e2
  cases hA : Pu.arcs a (L.map (·.1)) with
  | none => rw [hA] at e2; cases e2
  | some aE =>
    rw [hA] at e2
    refine ⟨aE, rfl, fun W2 tv2 hGa => ?_⟩
    have hPB : H.AllB P := fun z hz => hAB z (by rw [hP] at hz; exact List.mem_of_mem_drop (List.mem_of_mem_take hz))
    obtain ⟨f1, f2, f3, f4⟩ := feed_all fall0 P.length s P h.fit h.rok hPB
    have hgr := arcs_grow _ hA h.dl (X := 100000) (fun d p hd => by
      rw [hm] at hd
      have := (feed_dat _ _ _ hPB hd).2
      have := cutN_le (cs := cs) (i := i) h.posl
      omega)
    rw [List.length_map] at hgr
    have hLl : L.length ≤ 4 * P.length := by rw [← List.length_map (f := (·.1)), hm]; exact f1
    have hWs : w1.heap.size ≤ W.heap.size := h.sz
    have hW1 := on.mv.size
    have htvW : ∀ k, tv.ownBlock = some k → k < W.heap.size := fun k hk => (own_lt h.row hk).1
    have hmi : ∀ k, Mine g kv' gv' lv' k → k = g ∨ w1.heap.size ≤ k := fun k hk => by
      rcases on.mine k hk with q | q
      · exact h.mine k q
      · right; omega
    have hntv : ∀ k, tv.ownBlock = some k → ¬ Mine g kv' gv' lv' k := fun k hk hm => by
      rcases on.mine k hm with q | q
      · exact (h.tvb k hk).2 q
      · have := htvW k hk; omega
    have hpm := on.pm.moved (w' := W2) fun k hk => hGa.mv.block k (on.pm.mine hk) (fun q => by
      rcases q with q | q
      · subst q
        rcases hmi k hk with e | e <;> omega
      · exact hntv k q hk)
    have hmvW : Mv (fun k => k = g ∨ k = ga) w1 W1 := h.mv.trans on.mv (fun x hx => by
      rcases h.mine x hx with q | q
      · exact .inl (.inl q)
      · exact .inr q)
    refine ⟨hpm, f3, f4, hGa.box, hGa.row, hmvW.trans hGa.mv (fun x hx => ?_), hmi, fun k hk => ?_, (Pu.arcs_begins _ hA h.half).2, cutN_le h.posl, e1, e2, ?_, fun u hu => ?_, ?_, ?_⟩
    · rcases hx with q | q
      · exact .inl (.inr q)
      · exact .inr (h.tvb x q).1
    · rcases hGa.old with e | ⟨q, e, hq⟩
      · rw [e] at hk
        exact ⟨(h.tvb k hk).1, hntv k hk⟩
      · rw [e] at hk
        cases hk
        refine ⟨by omega, fun hm => ?_⟩
        have := on.pm.mine hm
        omega
    · have := h.len; omega
    · have := hgr.2 u hu
      rw [Nat.add_mul]
      exact this
    · have := h.ne; omega
    · have := h.rd; omega
end
end Go.Proofs.YtnmmaedngdibeaaGreatDoor

namespace Go.Proofs.YtnmmaedngdibeaaGreatDoor
open Go.RowKit
set_option linter.unusedVariables false
set_option linter.unusedSimpArgs false

set_option maxRecDepth 100000 in
set_option maxHeartbeats 8000000 in
theorem round_w (w0 w1 W : World) (zs cs : List Int) (g ga GC cc i pos Ne : Nat) (s : PsR) (kv gv lv tv vb : Value) (a : AcE) (Q : Exit → Act → World → Prop) (h : Fs w1 W zs cs g ga i pos s kv gv lv tv a Ne) (hi : i < cs.length)
    (hb : RIn .u8 w0 vb zs) (hw : Below w0.heap.size w0 w1) (hg0 : w0.heap.size ≤ g) (hga0 : w0.heap.size ≤ ga) (hg : g < w1.heap.size) (hga : ga < w1.heap.size) (hgg : g ≠ ga) (hAB : H.AllB zs) (hzl : zs.length ≤ 40000)
    (hc : ∀ j u, (cs.map fun z => Value.int .i64 z)[j]? = some u → w1.cell? ⟨GC, j, none⟩ = some u) (hGC : GC < w1.heap.size) (hGg : GC ≠ g) (hGa : GC ≠ ga) (hcl : cs.length ≤ 10000) (hLb : Lb w0) (hF : F.Laid w0)
    (s1 s2 s3 s4 s5 s11 s12 s13 s14 s15 s16 s17 s18 s19 s20 s21 s22 s23 s24 s26 s28 s29 s30 s31 s32 s33 s34 s35 s36 s37 s38 s39 s40 s41 s42 s43 s44 s45 s46 s47 s48 s49 s50 s51 s52 s53 s54 s55 s56 s57 s58 s59 s60 s61 s62 s63 s64 s65 s66 s67 s68 s69 s70 s71 s72 s73 s74 s75 s76 s77 s78 s79 s80 s81 s82 s83 s84 s85 s86 s87 s88 s89 s90 s91 s92 s93 s94 s95 s96 s97 s98 s99 s100 s101 s102 s103 s104 s105 s106 s107 s108 s109 s110 s111 s112 s113 s114 s115 s116 s117 s118 s119 s120 s121 s122 s123 s124 s125 s126 s127 s128 s129 s130 s131 s132 s133 s134 s135 s136 s137 s138 s139 s140 s141 s142 s143 s144 s145 s146 s147 s148 s149 s150 s151 s152 : Value)
    (HQ : Hid (∀ (r5 r12 r14 r15 r16 r29 r30 r31 r32 r33 r34 r35 r36 r37 r38 r39 r40 r41 r42 r43 r44 r45 r46 r47 r48 r49 r50 r51 r52 r53 r54 r55 r56 r57 r58 r59 r60 r61 r62 r63 r64 r65 r66 r67 r68 r69 r70 r71 r72 r73 r74 r75 r76 r77 r78 r79 r80 r81 r82 r83 r84 r85 r86 r87 r88 r89 r90 r91 r92 r93 r94 r95 r96 r97 r98 r99 r100 r101 r102 r103 r104 r105 r106 r107 r108 r109 r110 r111 r112 r113 r114 r115 r116 r117 r118 r119 r120 r121 r122 r123 r124 r125 r126 r127 r128 r129 r130 r131 r132 r133 r134 r135 r136 r137 r138 r139 r140 : Value) (W2 : World) (sN : PsR) (kv2 gv2 lv2 tv2 : Value) (aE : AcE) (Ne2 : Nat), Fs w1 W2 zs cs g ga (i + 1) (pos + cutN zs cs i pos) sN kv2 gv2 lv2 tv2 aE Ne2 → Q .normal { tmps := #[vb, s1, s2, s3, s4, r5, .pointer (some ⟨g, 0, none⟩), .pointer (some ⟨ga, 0, none⟩), .bool aE.op, .bool aE.ov, .int .i64 ((pos : Int) + (cutN zs cs i pos : Int)), s11, r12, s13, r14, r15, r16, s17, s18, s19, s20, s21, s22, s23, s24, .slice (some ⟨GC, 0, none⟩) cs.length cc, s26, .int .i64 (i : Int), s28, r29, r30, r31, r32, r33, r34, r35, r36, r37, r38, r39, r40, r41, r42, r43, r44, r45, r46, r47, r48, r49, r50, r51, r52, r53, r54, r55, r56, r57, r58, r59, r60, r61, r62, r63, r64, r65, r66, r67, r68, r69, r70, r71, r72, r73, r74, r75, r76, r77, r78, r79, r80, r81, r82, r83, r84, r85, r86, r87, r88, r89, r90, r91, r92, r93, r94, r95, r96, r97, r98, r99, r100, r101, r102, r103, r104, r105, r106, r107, r108, r109, r110, r111, r112, r113, r114, r115, r116, r117, r118, r119, r120, r121, r122, r123, r124, r125, r126, r127, r128, r129, r130, r131, r132, r133, r134, r135, r136, r137, r138, r139, r140, s141, s142, s143, s144, s145, s146, s147, s148, s149, s150, s151, s152], defers := [] } W2)) :
    Code.wp Tryz.prog ((Tryz.f11.body.bind (blkAt 1)).getD .skip) Q { tmps := #[vb, s1, s2, s3, s4, s5, .pointer (some ⟨g, 0, none⟩), .pointer (some ⟨ga, 0, none⟩), .bool a.op, .bool a.ov, .int .i64 (pos : Int), s11, s12, s13, s14, s15, s16, s17, s18, s19, s20, s21, s22, s23, s24, .slice (some ⟨GC, 0, none⟩) cs.length cc, s26, .int .i64 (i : Int), s28, s29, s30, s31, s32, s33, s34, s35, s36, s37, s38, s39, s40, s41, s42, s43, s44, s45, s46, s47, s48, s49, s50, s51, s52, s53, s54, s55, s56, s57, s58, s59, s60, s61, s62, s63, s64, s65, s66, s67, s68, s69, s70, s71, s72, s73, s74, s75, s76, s77, s78, s79, s80, s81, s82, s83, s84, s85, s86, s87, s88, s89, s90, s91, s92, s93, s94, s95, s96, s97, s98, s99, s100, s101, s102, s103, s104, s105, s106, s107, s108, s109, s110, s111, s112, s113, s114, s115, s116, s117, s118, s119, s120, s121, s122, s123, s124, s125, s126, s127, s128, s129, s130, s131, s132, s133, s134, s135, s136, s137, s138, s139, s140, s141, s142, s143, s144, s145, s146, s147, s148, s149, s150, s151, s152], defers := [] } W := by
  conv => arg 2; whnf
  have h14 := hLb.sz
  have hbW : Below w0.heap.size w0 W := hw.trans (h.mv.below hw.size (fun k hk => by rcases hk with hk | hk <;> omega))
  have hLbW := hLb.below hbW
  have hFW := hF.below hbW
  have hic : W.cell? ⟨GC, i, none⟩ = some (.int .i64 (cs.getD i 0)) := by
    have e := h.still hGC hGg hGa
    have := hc i (.int .i64 (cs.getD i 0)) (by rw [List.getElem?_map, List.getElem?_eq_getElem hi, List.getD_eq_getElem?_getD, List.getElem?_eq_getElem hi]; rfl)
    simp only [World.cell?] at this ⊢
    rw [e]
    exact this
  have hcut := cutN_int (zs := zs) (cs := cs) (i := i) (pos := pos)
  have hcl2 := cutN_le (cs := cs) (i := i) h.posl
  obtain ⟨ad, cc9, hsl, hpz⟩ := piece_run hb pos (cutN zs cs i pos) hcl2
  have hPl : ((zs.drop pos).take (cutN zs cs i pos)).length = cutN zs cs i pos := by rw [List.length_take, List.length_drop]; omega
  have hPB : H.AllB ((zs.drop pos).take (cutN zs cs i pos)) := fun z hz => hAB z (List.mem_of_mem_drop (List.mem_of_mem_take hz))
  have hM14 : ∀ k, Mine g kv gv lv k → w0.heap.size ≤ k := fun k hk => by
    rcases h.mine k hk with q | q
    · omega
    · have := hw.size; omega
  have qf := feedp_w h.pm h.rok h.fit hLbW (fun k hk => by have := hM14 k hk; omega) ad cc9 (cutN zs cs i pos) ((zs.drop pos).take (cutN zs cs i pos)) hPl hPB
    (hpz.imp id fun ⟨B, o, e1, e2, e3, e4, e5⟩ => ⟨B, o, e1, Nat.lt_of_lt_of_le e2 hbW.size, e3.moved (hbW.block B e2), e4, e5, fun hm => by have := hM14 B hm; omega⟩) (by omega) (by have := h.rd; omega)
  have HN := fun v L kv' gv' lv' W1 on hm => h.next (W1 := W1) (v := v) (L := L) (kv' := kv') (gv' := gv') (lv' := lv') hg hga hgg hi rfl hAB (by omega) on hm
  obtain ⟨P, hP⟩ : ∃ P, P = (zs.drop pos).take (cutN zs cs i pos) := ⟨_, rfl⟩
  rw [← hP] at HN qf hPB hPl
  have HH : Hid _ := h
  have HNH : Hid _ := HN
  have HQF : Hid _ := qf
  have HPB : Hid (H.AllB P) := hPB
  have HLW : Hid (F.Laid W) := hFW
  obtain ⟨ad0, c0, rfl⟩ := hb.sl
  obtain ⟨n, hn⟩ : ∃ n, n = cutN zs cs i pos := ⟨_, rfl⟩
  rw [← hn] at hcut hcl2 hsl hPl HNH HQF HQ
  have Hn : Hid (n = cutN zs cs i pos) := hn
  generalize cs.getD i 0 = ci at *
  have hi0 : (i : Int) < (cs.length : Int) := by omega
  have hgaW : ga < W.heap.size := by have := h.sz; omega
  have hM := fun k hk => HH.out.mine k hk
  clear hn h hb hw hLb hF hbW hLbW hFW hc HN qf hP hPB hpz hM14
  refine wp_block ?_
  refine wp_seq_k (fun K1 hK1 => ?_)
  have HK1 : Hid _ := hK1
  clear hK1
  go_wp2_with fail
  refine HK1.out _ _ ?_
  clear HK1 K1
  refine wp_seq_k (fun K2 hK2 => ?_)
  have HK2 : Hid _ := hK2
  clear hK2
  go_wp2_with fail
  refine HK2.out _ _ ?_
  clear HK2 K2
  refine wp_seq_k (fun K3 hK3 => ?_)
  have HK3 : Hid _ := hK3
  clear hK3
  refine wp_seq_k (fun K4 hK4 => ?_)
  have HK4 : Hid _ := hK4
  clear hK4
  go_wp2_with (go_at_call 14; go_loud (refine Calls.mono HQF.out ?_; rintro ev W1 ⟨v, L, rfl, hO, hm⟩; obtain ⟨kv2, gv2, lv2, on⟩ := hO.on; obtain ⟨ta, tc, rfl, _, _, _⟩ := own_sl on.evs; have HON : Hid _ := on; have HM : Hid _ := hm; clear hO on hm))
  refine HK4.out _ _ ?_
  clear HK4 K4
  have on := HON.out
  obtain ⟨aE, hA, HNX⟩ := HNH.out _ _ _ _ _ _ on HM.out
  have hf := HH.out
  have hPl' : P.length ≤ 40000 := by omega
  have hfa := feed_all fall0 P.length s P hf.fit hf.rok HPB.out
  have hLl : L.length ≤ 4 * P.length := by rw [← List.length_map (f := (·.1)), HM.out]; exact hfa.1
  have htv : ∀ k, tv.ownBlock = some k → k < W.heap.size := fun k hk => (own_lt hf.row hk).1
  have hst : ∀ k, k < W.heap.size → ¬ Mine g kv gv lv k → W1.heap[k]? = W.heap[k]? := on.mv.block
  have hgaM : ¬ Mine g kv gv lv ga := fun hm => by rcases hf.mine ga hm with q | q <;> omega
  have hGs : Ga W1 W1 ga tv tv a := Ga.start ((hst ga hgaW hgaM).trans hf.box) (own_moved hf.row fun k hk => hst k (htv k hk) (hf.tvb k hk).2) (fun e => by have := (hf.tvb ga e).1; omega)
  have hLb1 : F.Laid W1 := ⟨by have := HLW.out.1; have := on.mv.size; omega, by
    have := HLW.out.2
    simp only [World.cell?] at this ⊢
    rw [hst 7 HLW.out.1 (fun hm => by rcases hf.mine 7 hm with q | q <;> omega)]
    exact this⟩
  refine events_w W1 W ga tv (.slice ta L.length tc) a aE L (Mine g kv2 gv2 lv2) _ hGs on.evs (fun k hk => (on.blk k hk).1) hgaW htv on.dat hf.half hA
    (fun b p x hx hxm => ?_) Ne (fun u hu => hf.dl u hu) ?_ ?_ hLb1 (by omega) (fun k hk => by have := (hf.tvb k hk).1; omega) _ _ _ _ _ _ _ _ _ _ _ _ _ _ _ _ _ _ _ _ _ _ _ _ _ _ _ _ _ _ _ _ _ _ _ _ _ _ _ _ _ _ _ _ _ _ _ _ _ _ _ _ _ _ _ _ _ _ _ _ _ _ _ _ _ _ _ _ _ _ _ _ _ _ _ _ _ _ _ _ _ _ _ _ _ _ _ _ _ _ _ _ _ _ _ _ _ _ _ _ _ _ _ _ _ _ _ _ _ _ _ _ _ _ _ _ _ _ _ _ _ _ _ _ _ _ _ _ _ _ _ _ _ _ _ _ _ _ _ _ _ _ _ _ _ _ _ ?_
  · have : (.dat b p : EvE) ∈ L.map (·.1) := List.mem_map.2 ⟨x, hxm, hx⟩
    rw [HM.out] at this
    obtain ⟨k1, k2⟩ := feed_dat _ _ _ HPB.out this
    exact ⟨k1, by omega⟩
  · have := hf.ne
    have := hf.posl
    omega
  · have := hf.len
    have := hf.ne
    have := hf.posl
    omega
  · intro x5 x14 x15 x16 x47 x48 x49 x50 x51 x52 x53 x54 x55 x56 x57 x58 x59 x60 x61 x62 x63 x64 x65 x66 x67 x68 x69 x70 x71 x72 x73 x74 x75 x76 x77 x78 x79 x80 x81 x82 x83 x84 x85 x86 x87 x88 x89 x90 x91 x92 x93 x94 x95 x96 x97 x98 x99 x100 x101 x102 x103 x104 x105 x106 x107 x108 x109 x110 x111 x112 x113 x114 x115 x116 x117 x118 x119 x120 x121 x122 x123 x124 x125 x126 x127 x128 x129 x130 x131 x132 x133 x134 x135 x136 x137 W2 tv2 hGa2
    show K3 _ _
    have hF2 := HNX W2 tv2 hGa2
    have HF2 : Hid _ := hF2
    clear HNX hF2 hGa2 hGs hLb1 hst hfa hf on HH HNH HQF HON HM hA htv hM
    refine HK3.out _ _ ?_
    clear HK3 K3
    go_wp2_with fail
    rw [Hn.out] at HF2 HQ ⊢
    exact HQ.out _ _ _ _ _ _ _ _ _ _ _ _ _ _ _ _ _ _ _ _ _ _ _ _ _ _ _ _ _ _ _ _ _ _ _ _ _ _ _ _ _ _ _ _ _ _ _ _ _ _ _ _ _ _ _ _ _ _ _ _ _ _ _ _ _ _ _ _ _ _ _ _ _ _ _ _ _ _ _ _ _ _ _ _ _ _ _ _ _ _ _ _ _ _ _ _ _ _ _ _ _ _ _ _ _ _ _ _ _ _ _ _ _ _ _ _ _ W2 _ _ _ _ _ _ _ HF2.out
end Go.Proofs.YtnmmaedngdibeaaGreatDoor

namespace Go.Proofs.YtnmmaedngdibeaaGreatDoor
open Go.RowKit
set_option linter.unusedVariables false
set_option linter.unusedSimpArgs false

def headReg : Code → Option Nat
  | .region n _ _ => some n
  | .seq a _ => headReg a
  | .block _ c => headReg c
  | .scope c => headReg c
  | _ => none
def tailAt (n : Nat) : Code → Option Code
  | .seq a b => if headReg a = some n then some (.seq a b) else tailAt n b
  | .block _ c => tailAt n c
  | .scope c => tailAt n c
  | _ => none
theorem sizeAr : (Tryz.prog.info? 27).map (·.size) = some 4 := by kernel_rfl

/-- the end of the way: what is gathered is what comes back -/
def arC (tv : Value) (a : AcE) : Array Value := #[tv, .bool a.dn, .int .i64 a.code, .int .i64 a.place]
theorem arC_one {tv : Value} (a : AcE) (h : tv.oneCell' = true) : (arC tv a).all (·.oneCell') = true := by
  rw [← Array.all_toList]
  show ([tv, .bool a.dn, .int .i64 a.code, .int .i64 a.place] : List Value).all _ = true
  rw [List.all_cons, h]
  rfl

set_option maxRecDepth 100000 in
set_option maxHeartbeats 8000000 in
theorem tail43_w (W : World) (ga r4 : Nat) (C : Array Value) (old : Array Value) (PP : Ending → World → Prop) (hbx : W.heap[ga]? = some (.cells C 27 (0, 0))) (hrs : W.heap[r4]? = some (.cells old 27 (0, 0))) (hj : old.size = C.size) (hsz : (Tryz.prog.info? 27).map (·.size) = some C.size) (hone : C.all (·.oneCell') = true)
    (s0 s1 s2 s3 s5 s6 s8 s9 s10 s11 s12 s13 s14 s15 s16 s17 s18 s19 s20 s21 s22 s23 s24 s25 s26 s27 s28 s29 s30 s31 s32 s33 s34 s35 s36 s37 s38 s39 s40 s41 s42 s43 s44 s45 s46 s47 s48 s49 s50 s51 s52 s53 s54 s55 s56 s57 s58 s59 s60 s61 s62 s63 s64 s65 s66 s67 s68 s69 s70 s71 s72 s73 s74 s75 s76 s77 s78 s79 s80 s81 s82 s83 s84 s85 s86 s87 s88 s89 s90 s91 s92 s93 s94 s95 s96 s97 s98 s99 s100 s101 s102 s103 s104 s105 s106 s107 s108 s109 s110 s111 s112 s113 s114 s115 s116 s117 s118 s119 s120 s121 s122 s123 s124 s125 s126 s127 s128 s129 s130 s131 s132 s133 s134 s135 s136 s137 s138 s139 s140 s141 s142 s143 s144 s145 s146 s147 s148 s149 s150 s151 s152 : Value)
    (HB : PP (.returned (.tuple #[.agg C, .bool true])) (W.setRow r4 C)) :
    Code.wp Tryz.prog ((Tryz.f11.body.bind (tailAt 43)).getD .skip) (bodyPost Tryz.prog Tryz.f11 PP) { tmps := #[s0, s1, s2, s3, .pointer (some ⟨r4, 0, none⟩), s5, s6, .pointer (some ⟨ga, 0, none⟩), s8, s9, s10, s11, s12, s13, s14, s15, s16, s17, s18, s19, s20, s21, s22, s23, s24, s25, s26, s27, s28, s29, s30, s31, s32, s33, s34, s35, s36, s37, s38, s39, s40, s41, s42, s43, s44, s45, s46, s47, s48, s49, s50, s51, s52, s53, s54, s55, s56, s57, s58, s59, s60, s61, s62, s63, s64, s65, s66, s67, s68, s69, s70, s71, s72, s73, s74, s75, s76, s77, s78, s79, s80, s81, s82, s83, s84, s85, s86, s87, s88, s89, s90, s91, s92, s93, s94, s95, s96, s97, s98, s99, s100, s101, s102, s103, s104, s105, s106, s107, s108, s109, s110, s111, s112, s113, s114, s115, s116, s117, s118, s119, s120, s121, s122, s123, s124, s125, s126, s127, s128, s129, s130, s131, s132, s133, s134, s135, s136, s137, s138, s139, s140, s141, s142, s143, s144, s145, s146, s147, s148, s149, s150, s151, s152], defers := [] } W := by
  conv => arg 2; whnf
  have hg2 := setRow_heap W r4 old C 27 (0, 0) hrs
  go_wp2_with (first
    | (refine wpList_load_row rfl 27 _ rfl _ rfl 27 C _ _ hbx Tryz.underlying27 rfl hsz ?_)
    | (refine wpList_store_row rfl 27 _ _ rfl _ C rfl rfl 27 _ hrs hsz hj hone ?_))
  have hld := run_loadVar_row _ _ _ 27 _ _ _ hg2 Tryz.underlying27 rfl hsz
  try simp only [Exit.inBlock, Exit.then]
  exact bodyPost_ret (by rw [results_cell_tmp rfl]; simp [asAddr, hld]) rfl HB

set_option maxRecDepth 100000 in
set_option maxHeartbeats 8000000 in
theorem tail40_w (W : World) (g ga r4 : Nat) (a : AcE) (s : PsR) (kv gv lv tv : Value) (old : Array Value) (PP : Ending → World → Prop) (hpm : Pm W g s kv gv lv) (hbx : W.heap[ga]? = some (.cells (arC tv a) 27 (0, 0))) (htv : tv.oneCell' = true) (hrs : W.heap[r4]? = some (.cells old 27 (0, 0))) (hj : old.size = 4) (hr4 : r4 ≠ ga) (hL : F.Laid W) (h14 : 14 ≤ ga) (hgo : Pu.Goes s a)
    (s0 s1 s2 s3 s5 s8 s10 s11 s12 s13 s14 s15 s16 s17 s18 s19 s20 s21 s22 s23 s24 s25 s26 s27 s28 s29 s30 s31 s32 s33 s34 s35 s36 s37 s38 s39 s40 s41 s42 s43 s44 s45 s46 s47 s48 s49 s50 s51 s52 s53 s54 s55 s56 s57 s58 s59 s60 s61 s62 s63 s64 s65 s66 s67 s68 s69 s70 s71 s72 s73 s74 s75 s76 s77 s78 s79 s80 s81 s82 s83 s84 s85 s86 s87 s88 s89 s90 s91 s92 s93 s94 s95 s96 s97 s98 s99 s100 s101 s102 s103 s104 s105 s106 s107 s108 s109 s110 s111 s112 s113 s114 s115 s116 s117 s118 s119 s120 s121 s122 s123 s124 s125 s126 s127 s128 s129 s130 s131 s132 s133 s134 s135 s136 s137 s138 s139 s140 s141 s142 s143 s144 s145 s146 s147 s148 s149 s150 s151 s152 : Value)
    (HB : Hid (∀ W2 b, b.ts = a.ts → b.dn = a.dn → (b.code = if a.ov then a.code else 5) → (b.place = if a.ov then a.place else (s.rd : Int)) → Mv (fun k => k = ga) W W2 → PP (.returned (.tuple #[.agg (arC tv b), .bool true])) (W2.setRow r4 (arC tv b)))) :
    Code.wp Tryz.prog ((Tryz.f11.body.bind (tailAt 40)).getD .skip) (bodyPost Tryz.prog Tryz.f11 PP) { tmps := #[s0, s1, s2, s3, .pointer (some ⟨r4, 0, none⟩), s5, .pointer (some ⟨g, 0, none⟩), .pointer (some ⟨ga, 0, none⟩), s8, .bool a.ov, s10, s11, s12, s13, s14, s15, s16, s17, s18, s19, s20, s21, s22, s23, s24, s25, s26, s27, s28, s29, s30, s31, s32, s33, s34, s35, s36, s37, s38, s39, s40, s41, s42, s43, s44, s45, s46, s47, s48, s49, s50, s51, s52, s53, s54, s55, s56, s57, s58, s59, s60, s61, s62, s63, s64, s65, s66, s67, s68, s69, s70, s71, s72, s73, s74, s75, s76, s77, s78, s79, s80, s81, s82, s83, s84, s85, s86, s87, s88, s89, s90, s91, s92, s93, s94, s95, s96, s97, s98, s99, s100, s101, s102, s103, s104, s105, s106, s107, s108, s109, s110, s111, s112, s113, s114, s115, s116, s117, s118, s119, s120, s121, s122, s123, s124, s125, s126, s127, s128, s129, s130, s131, s132, s133, s134, s135, s136, s137, s138, s139, s140, s141, s142, s143, s144, s145, s146, s147, s148, s149, s150, s151, s152], defers := [] } W := by
  conv => arg 2; whnf
  have hsz : (Tryz.prog.info? 27).map (·.size) = some 4 := sizeAr
  refine wp_seq_k (fun K hK => ?_)
  have HK : Hid (∀ (a : Act) (w : World), Code.wp Tryz.prog ((Tryz.f11.body.bind (tailAt 43)).getD .skip) (bodyPost Tryz.prog Tryz.f11 PP) a w → K a w) := hK
  clear hK
  by_cases hov : a.ov = true
  · rw [hov]
    have hB := HB.out W a rfl rfl (by rw [hov]; rfl) (by rw [hov]; rfl) (Mv.refl _ _)
    have HBB : Hid _ := hB
    clear HB hB hpm hgo
    have HX : Hid _ := hbx
    have HR : Hid _ := hrs
    clear hbx hrs
    go_wp2_with fail
    refine HK.out _ _ ?_
    exact tail43_w W ga r4 (arC tv a) old PP HX.out HR.out hj hsz (arC_one a htv) _ _ _ _ _ _ _ _ _ _ _ _ _ _ _ _ _ _ _ _ _ _ _ _ _ _ _ _ _ _ _ _ _ _ _ _ _ _ _ _ _ _ _ _ _ _ _ _ _ _ _ _ _ _ _ _ _ _ _ _ _ _ _ _ _ _ _ _ _ _ _ _ _ _ _ _ _ _ _ _ _ _ _ _ _ _ _ _ _ _ _ _ _ _ _ _ _ _ _ _ _ _ _ _ _ _ _ _ _ _ _ _ _ _ _ _ _ _ _ _ _ _ _ _ _ _ _ _ _ _ _ _ _ _ _ _ _ _ _ _ _ _ _ _ _ _ _ _ _ _ _ HBB.out
  · have hof : a.ov = false := by simpa using hov
    have h4 : s.pt ≠ 4 := fun e => hov (hgo.ov.2 e)
    rw [hof]
    have q := end_w hpm
    have ev : endV s = F.chain 5 [(s.rd : Int)] := if_neg h4
    rw [ev] at q
    obtain ⟨ct, cx, hx⟩ := F.chain_form 5 [(s.rd : Int)]
    have HQC : Hid (∀ (W2 : World), Mv (fun k => k = ga) W W2 → Calls Tryz.prog 18 #[.iface ct cx] W2 fun ev w' => ev = .returned (.int .i64 5) ∧ Below W2.heap.size W2 w') := fun W2 b => by
      rw [← hx]
      exact F.code_any (some [(s.rd : Int)]) 5 W2 ⟨Nat.lt_of_lt_of_le hL.1 b.size, by have := hL.2; simp only [World.cell?] at this ⊢; rw [b.block 7 hL.1 (by omega)]; exact this⟩
    have HQP : Hid (∀ (W2 : World), Mv (fun k => k = ga) W W2 → Calls Tryz.prog 19 #[.iface ct cx] W2 fun ev w' => ev = .returned (.int .i64 (s.rd : Int)) ∧ Below W2.heap.size W2 w') := fun W2 b => by
      rw [← hx]
      exact F.place_any (some [(s.rd : Int)]) 5 W2 ⟨Nat.lt_of_lt_of_le hL.1 b.size, by have := hL.2; simp only [World.cell?] at this ⊢; rw [b.block 7 hL.1 (by omega)]; exact this⟩
    have HQE : Hid _ := q
    rw [hx] at HQE
    have HMq : Hid (∀ (W2 : World) j v, Mv (fun k => k = ga) W W2 → Mv (fun k => k = ga) W (W2.setCell ⟨ga, j, none⟩ v)) := fun W2 j v b =>
      ⟨b.os, b.tape, b.output, by have := b.size; simpa [World.setCell] using this, fun k hk hn => by
        rw [← b.block k hk hn]
        simp [World.setCell, Array.getElem?_modify, Ne.symm hn]⟩
    have HMp : Hid (∀ (W2 : World) j v, Mv (fun k => k = ga) W W2 → Mv (fun k => k = ga) W (W2.setCell ⟨ga, j, none⟩ v).drew) := fun W2 j v b => by
      have m := HMq.out W2 j v b
      exact ⟨m.os, m.tape, m.output, m.size, m.block⟩
    have HMb : Hid (∀ (W2 W3 : World), Mv (fun k => k = ga) W W2 → Below W2.heap.size W2 W3 → Mv (fun k => k = ga) W W3) := fun W2 W3 b k => b.trans (Mv.of_below (O := fun k => k = ga) k) (fun x hx => .inl hx)
    have hS0 : Mv (fun k => k = ga) W W := Mv.refl _ _
    have hS1 : Mv (fun k => k = ga) W W.drew := ⟨rfl, rfl, rfl, Nat.le_refl _, fun _ _ _ => rfl⟩
    have hgaW := lt_of_heap hbx
    have HGB : Hid (∀ W2, Below W.heap.size W W2 → (∀ n, W2.frozen? ⟨ga, n, none⟩ = false) ∧ W2.cell? ⟨ga, 2, none⟩ = some (.int .i64 a.code) ∧ W2.cell? ⟨ga, 3, none⟩ = some (.int .i64 a.place)) := fun W2 b => by
      have bx2 := (b.block ga hgaW).trans hbx
      exact ⟨fun n => by simp [World.frozen?, bx2], by simp [World.cell?, bx2, arC], by simp [World.cell?, bx2, arC]⟩
    have HBX : Hid _ := hbx
    have HRS : Hid _ := hrs
    have HTV : Hid _ := htv
    have HCC : Hid _ := hov
    clear hpm hbx hrs htv hL hgo q ev hx hov
    go_wp2_with (first
      | (go_at_call 17; refine Calls.mono HQE.out ?_; rintro e w1 ⟨rfl, hw1⟩; have hw2 : W = w1 := hw1.symm; subst hw2)
      | (go_at_call 18; refine (HQC.out _ hS0).mono ?_; rintro e w5 ⟨rfl, b5⟩; have hS5 := HMb.out _ _ hS0 b5)
      | (go_at_call 19; refine (HQP.out _ hS5).mono ?_; rintro e w6 ⟨rfl, b6⟩; have hS6 := HMb.out _ _ hS5 b6; obtain ⟨z6, k2, k3⟩ := HGB.out w6 (Below.trans b5 (b6.mono b5.size))))
    refine HK.out _ _ ?_
    have hm6 := HMq.out _ 3 (.int .i64 (s.rd : Int)) (HMq.out _ 2 (.int .i64 5) hS6)
    have hbx6 := Lib.heap_setCell_same (i := 3) (Lib.heap_setCell_same (i := 2) (((Below.trans b5 (b6.mono b5.size)).block ga hgaW).trans HBX.out) (.int .i64 5)) (.int .i64 (s.rd : Int))
    have hC : ((arC tv a).setIfInBounds 2 (.int .i64 5)).setIfInBounds 3 (.int .i64 (s.rd : Int)) = arC tv { a with code := 5, place := (s.rd : Int) } := by simp [arC]
    rw [hC] at hbx6
    have hfin := HB.out _ { a with code := 5, place := (s.rd : Int) } rfl rfl (by rw [hof]; rfl) (by rw [hof]; rfl) hm6
    have hrs6 := (hm6.block r4 (lt_of_heap HRS.out) hr4).trans HRS.out
    exact tail43_w _ ga r4 _ old PP hbx6 hrs6 hj hsz (arC_one _ HTV.out) _ _ _ _ _ _ _ _ _ _ _ _ _ _ _ _ _ _ _ _ _ _ _ _ _ _ _ _ _ _ _ _ _ _ _ _ _ _ _ _ _ _ _ _ _ _ _ _ _ _ _ _ _ _ _ _ _ _ _ _ _ _ _ _ _ _ _ _ _ _ _ _ _ _ _ _ _ _ _ _ _ _ _ _ _ _ _ _ _ _ _ _ _ _ _ _ _ _ _ _ _ _ _ _ _ _ _ _ _ _ _ _ _ _ _ _ _ _ _ _ _ _ _ _ _ _ _ _ _ _ _ _ _ _ _ _ _ _ _ _ _ _ _ _ _ _ _ _ _ _ _ hfin

theorem infoI : (Tryz.prog.info? 3).map (fun i => (i.zero, i.size, i.bytes)) = some (some (.int .i64 0), 1, 8) := by kernel_rfl
theorem ints_len (xs : List Int) : (xs.map fun z => Value.int .i64 z).length = xs.length * 1 := by simp
theorem ints_one (xs : List Int) : ∀ u ∈ (xs.map fun z => Value.int .i64 z), u.oneCell' = true := by
  intro u hu
  obtain ⟨z, _, rfl⟩ := List.mem_map.1 hu
  rfl
/-- 'append(v, more...)' of integers -/
theorem wpList_append_ints {ops : Array Oper} {rest : List Oper} {o : Oper} {a : Act} {Q : Exit → Act → World → Prop} {W : World} (hgd : o.guard = none) (x1 x2 : Operand)
    (ho : o.op = .call { callee := .builtin .append, args := #[x1, x2], argTypes := #[23, 23] }) {xs ks : List Int} (v : Value) (hs : a.eval x1 = v) (hv : W.ownsRow 0 3 1 v xs.length (xs.map fun z => Value.int .i64 z)) (tv : Value) (hx : a.eval x2 = tv) (ht : RIn .i64 W tv ks)
    (hb : xs.length + ks.length ≤ 1000000) (B : Nat) (hB : B ≤ W.heap.size) (hvB : ∀ k, v.ownBlock = some k → B ≤ k)
    (h : ∀ v' W', W'.ownsRow 0 3 1 v' (xs ++ ks).length ((xs ++ ks).map fun z => Value.int .i64 z) → Below B W W' → (∀ k, v'.ownBlock = some k → B ≤ k) → wpList Tryz.prog ops Q rest (a.put o.dst v') W') :
    wpList Tryz.prog ops Q (o :: rest) a W := by
  obtain ⟨i0, hi, hz0, hz1, hz2⟩ := info_parts infoI
  rcases ht with ⟨e1, rfl⟩ | ⟨ad, c, e1, e2, e3, e4⟩
  · refine wpList_append_own_none hgd x1 x2 23 ho 0 3 i0 1 Tryz.underlying23 hi _ _ _ hs hv (by rw [hx, e1]) ?_
    exact h v W (by simpa using hv) ⟨rfl, rfl, rfl, Nat.le_refl _, fun _ _ => rfl⟩ hvB
  · refine wpList_append_own_at W hgd x1 x2 23 ho 0 3 i0 _ 1 8 Tryz.underlying23 hi hz0 hz1 hz2 rfl (by decide) v _ _ hs hv ad ks.length c _ (by rw [hx, e1]) (ints_len ks) e4 (ints_one ks) (by unfold maxLen; omega) (by omega) (Nat.zero_le _) ?_
    intro v' W' o2 g2 _ at2
    refine h v' W' (by rw [List.length_append, List.map_append]; exact o2) ⟨g2.os, g2.tape, g2.output, g2.size, fun k hk => g2.block k (by omega) (fun e => by have := hvB k e.symm; omega)⟩ (fun k hk => ?_)
    rcases at2 with e | e
    · rw [e] at hk; exact hvB k hk
    · rw [e] at hk; cases hk; exact hB

theorem own_one {W : World} {v : Value} {ts : List ThE} (h : ThS W v ts) : v.oneCell' = true := by
  obtain ⟨ta, tc, rfl, _⟩ := own_sl h
  rfl
/-- the archive's zero value -/
theorem zeroAr (W : World) : (zeroValue 27).run Tryz.prog W = .ok (.agg #[.slice none 0 0, .bool false, .int .i64 0, .int .i64 0]) W := by
  have b : (Tryz.prog.info? 27).bind (fun i => i.zero) = some (.agg #[.slice none 0 0, .bool false, .int .i64 0, .int .i64 0]) := by kernel_rfl
  cases hq : Tryz.prog.info? 27 with
  | none => rw [hq] at b; simp at b
  | some i => rw [hq] at b; simp at b; simp [zeroValue, typeInfo, hq, b]

set_option maxRecDepth 100000 in
set_option maxHeartbeats 8000000 in
theorem fed_w (w : World) (vb vc : Value) (zs cuts : List Int) (hb : RIn .u8 w vb zs) (hcu : RIn .i64 w vc cuts) (hAB : H.AllB zs) (hzl : zs.length ≤ 40000) (hcl : cuts.length ≤ 9000) (hLb : Lb w) (hF : F.Laid w) :
    Calls Tryz.prog 11 #[vb, vc] w fun e w' => ∃ tv, e = .returned (.tuple #[.agg (arC tv (finA zs)), .bool true]) ∧ ThS w' tv (finA zs).ts ∧ Below w.heap.size w w' ∧ ∀ k, tv.ownBlock = some k → w.heap.size ≤ k := by
  obtain ⟨PP, hPP⟩ : ∃ PP : Ending → World → Prop, PP = fun e w' => ∃ tv, e = .returned (.tuple #[.agg (arC tv (finA zs)), .bool true]) ∧ ThS w' tv (finA zs).ts ∧ Below w.heap.size w w' ∧ ∀ k, tv.ownBlock = some k → w.heap.size ≤ k := ⟨_, rfl⟩
  rw [← hPP]
  have HP : Hid (∀ (tv : Value) (b : AcE) (W3 : World), b.ts = (finA zs).ts → b.dn = (finA zs).dn → b.code = (finA zs).code → b.place = (finA zs).place → ThS W3 tv b.ts → Below w.heap.size w W3 → (∀ k, tv.ownBlock = some k → w.heap.size ≤ k) → PP (.returned (.tuple #[.agg (arC tv b), .bool true])) W3) := fun tv b W3 e1 e2 e3 e4 r bl nw => by
    rw [hPP]
    refine ⟨tv, ?_, by rw [← e1]; exact r, bl, nw⟩
    unfold arC
    rw [e2, e3, e4]
  clear hPP
  have h14 := hLb.sz
  have hzAr := zeroAr
  have HB : Hid _ := hb
  have HC : Hid _ := hcu
  have HA : Hid _ := hAB
  have HLB : Hid _ := hLb
  have HF : Hid _ := hF
  obtain ⟨ad0, c0, rfl⟩ := hb.sl
  obtain ⟨ad1, c1, rfl⟩ := hcu.sl
  clear hb hcu hAB hLb hF
  obtain ⟨cs, hcs⟩ : ∃ cs : List Int, cs = cuts ++ [(zs.length : Int)] := ⟨_, rfl⟩
  have HCS : Hid (cs = cuts ++ [(zs.length : Int)]) := hcs
  have hcsl : cs.length = cuts.length + 1 := by rw [hcs]; simp
  clear hcs
  have r1 : Hid ((w.alloc (.cells #[.slice none 0 0, .bool false, .int .i64 0, .int .i64 0] 27)).heap[w.heap.size]? = some (.cells #[.slice none 0 0, .bool false, .int .i64 0, .int .i64 0] 27 (0, 0))) := heap_alloc_new w _
  have ba : Hid (Below w.heap.size w (w.alloc (.cells #[.slice none 0 0, .bool false, .int .i64 0, .int .i64 0] 27))) := (Below.refl _ w).alloc (Nat.le_refl _) _
  have sa : (w.alloc (.cells #[.slice none 0 0, .bool false, .int .i64 0, .int .i64 0] 27)).heap.size = w.heap.size + 1 := by simp
  go_enter Tryz.func11, Tryz.ntmps11
  refine wp_seq_k (fun K0 hK0 => ?_)
  have HK0 : Hid _ := hK0
  clear hK0
  go_wp2_with fail
  refine HK0.out _ _ ?_
  clear HK0 K0
  refine wp_seq_k (fun K1 hK1 => ?_)
  have HK1 : Hid _ := hK1
  clear hK1
  go_wp2_with (first | (go_at_call 13; refine (new_w _).mono ?_; rintro e w2 ⟨rfl, pm2, b2, s2⟩; have HPM : Hid _ := pm2; have HB2 : Hid _ := b2; clear pm2 b2) | fail)
  refine HK1.out _ _ ?_
  clear HK1 K1
  rw [sa] at HPM HB2 s2
  have HR2 : Hid _ := (HB2.out.block w.heap.size (by omega)).trans r1.out
  have HB02 : Hid (Below w.heap.size w w2) := ba.out.trans (HB2.out.mono (by omega))
  clear r1 ba HB2
  generalize hw3 : w2.alloc (.cells #[.slice none 0 0, .bool false, .int .i64 0, .int .i64 0] 27) = w3 at *
  have b23 : Below w2.heap.size w2 w3 := by rw [← hw3]; exact (Below.refl _ w2).alloc (Nat.le_refl _) _
  have s3 : w3.heap.size = w2.heap.size + 1 := by rw [← hw3]; simp
  have HBX : Hid (w3.heap[w2.heap.size]? = some (.cells #[.slice none 0 0, .bool false, .int .i64 0, .int .i64 0] 27 (0, 0))) := by rw [← hw3]; exact heap_alloc_new w2 _
  have HPM3 : Hid _ := HPM.out.grow b23
  have HR3 : Hid _ := (b23.block w.heap.size (by omega)).trans HR2.out
  have HB03 : Hid (Below w.heap.size w w3) := HB02.out.trans (b23.mono (by omega))
  refine wp_seq_k (fun K2 hK2 => ?_)
  have HK2 : Hid _ := hK2
  clear hK2
  go_wp2_with fail
  refine HK2.out _ _ ?_
  clear HK2 K2
  clear hw3 HPM HR2 HB02 b23
  refine wp_seq_k (fun K3 hK3 => ?_)
  have HK3 : Hid _ := hK3
  clear hK3
  go_wp2_with fail
  refine HK3.out _ _ ?_
  clear HK3 K3
  refine wp_seq_k (fun K4 hK4 => ?_)
  have HK4 : Hid _ := hK4
  clear hK4
  go_wp2_with fail
  refine HK4.out _ _ ?_
  clear HK4 K4
  refine wp_seq_k (fun K6 hK6 => ?_)
  have HK6 : Hid (∀ (a : Act) (w : World), Code.wp Tryz.prog ((Tryz.f11.body.bind (tailAt 40)).getD .skip) (bodyPost Tryz.prog Tryz.f11 PP) a w → K6 a w) := hK6
  clear hK6
  have oE : Hid ((w3.alloc (.cells #[] 3)).ownsRow 0 3 1 (.slice (some ⟨w3.heap.size, 0, none⟩) 0 0) 0 (([] : List Int).map fun z => Value.int .i64 z)) := ⟨rfl, .inr ⟨w3.heap.size, 0, #[], rfl, Nat.zero_le _, heap_alloc_new w3 _, Nat.le_refl _, by decide, by simp, by simp⟩⟩
  have bE : Hid (Below w3.heap.size w3 (w3.alloc (.cells #[] 3))) := (Below.refl _ w3).alloc (Nat.le_refl _) _
  have hcE : Hid (RIn .i64 (w3.alloc (.cells #[] 3)) (.slice ad1 cuts.length c1) cuts) := RIn.below HC.out (HB03.out.trans (bE.out.mono (by omega)))
  have sE : (w3.alloc (.cells #[] 3)).heap.size = w3.heap.size + 1 := by simp
  generalize hwE : w3.alloc (.cells #[] 3) = wE at *
  have HWE : Hid _ := hwE
  clear hwE
  refine wp_seq_k (fun K5 hK5 => ?_)
  have HK5 : Hid _ := hK5
  clear hK5
  rw [← HWE.out] at oE hcE bE sE
  rw [s3, s2] at oE
  rw [s2] at HBX
  go_wp2_with (first
    | (at_builtin; refine wpList_append_ints rfl _ _ rfl (xs := []) (ks := cuts) _ rfl oE.out _ rfl hcE.out (by simp; omega) w3.heap.size (by rw [sE]; omega) (fun k hk => by have hk' : some (w.heap.size + 1 + 1 + 1) = some k := hk; cases hk'; omega) ?_; intro v5 w5 o5 b5 n5; obtain ⟨a5, c5, rfl, _⟩ := own_sl o5; have HO5 : Hid _ := o5; have HB5 : Hid _ := b5; have HN5 : Hid _ := n5; clear o5 b5 n5)
    | (at_builtin; refine wpList_append_ints rfl _ _ rfl (xs := [] ++ cuts) (ks := [(zs.length : Int)]) _ rfl (own_moved HO5.out fun k hk => ((Below.refl _ w5).alloc (Nat.le_refl _) _).block k (own_lt HO5.out hk).1) _ rfl (.inr ⟨_, 1, rfl, Nat.le_refl _, by decide, cell_one_new _ _ _⟩) (by simp; omega) w3.heap.size (by have := HB5.out.size; simp; omega) HN5.out ?_; intro v6 w6 o6 b6 n6; obtain ⟨a6, c6, rfl, _⟩ := own_sl o6; have HO6 : Hid _ := o6; have HB6 : Hid _ := b6; have HN6 : Hid _ := n6; clear o6 b6 n6))
  refine HK5.out _ _ ?_
  clear HK5 K5
  have o6 : w6.ownsRow 0 3 1 (.slice a6 cs.length c6) cs.length (cs.map fun z => Value.int .i64 z) := by rw [HCS.out]; exact HO6.out
  have hN6 : ∀ k, (Value.slice a6 cs.length c6).ownBlock = some k → w3.heap.size ≤ k := by rw [HCS.out]; exact HN6.out
  have b36 : Below w3.heap.size w3 w6 := ((bE.out.trans HB5.out).trans ((Below.refl w3.heap.size w5).alloc (by have := HB5.out.size; rw [sE] at this; omega) _)).trans HB6.out
  have hcsl' : (cuts.length : Int) + 1 = (cs.length : Int) := by omega
  rw [hcsl', ← hcsl]
  clear hcsl' HO6 HN6 HB6 HO5 HB5 HN5 oE bE hcE sE HWE sa HC
  rcases id o6.2 with ⟨e1, e2⟩ | ⟨GC, cap, cur, e1, e2, e3, e4, e5, e6, e7⟩
  · omega
  cases e1
  have hGC3 := hN6 GC rfl
  have hGC6 := lt_of_heap e3
  have hcells : ∀ j u, (cs.map fun z => Value.int .i64 z)[j]? = some u → w6.cell? ⟨GC, j, none⟩ = some u := fun j u hj => by
    have := o6.cells (g := GC) rfl j u hj
    rw [add_at, Nat.zero_add] at this
    exact this
  have HB06 : Hid (Below w.heap.size w w6) := HB03.out.trans (b36.mono (by omega))
  have hFs := Fs.start (zs := zs) w6 (HPM3.out.grow b36) ((b36.block (w.heap.size + 1 + 1) (by omega)).trans HBX.out) cuts
  rw [← HCS.out] at hFs
  have HFS0 : Hid _ := hFs
  have HR6 : Hid _ := (b36.block w.heap.size (by omega)).trans HR3.out
  have s6 := b36.size
  have HCE : Hid _ := hcells
  clear hFs hcells e2 e3 e4 e5 e6 e7 hN6 o6 b36 HPM3 HBX HR3 HB03 HCS
  have hcs9 : cs.length ≤ 10000 := by omega
  clear hcsl
  refine wp_block ?_
  go_loopg [8, 9, 10, 27] cs.length (fun gk t8 t9 t10 t27 W => ∃ (Wn : World) (i pos Ne : Nat) (s : PsR) (kv gv lv tv : Value) (a : AcE), Wn = W ∧ i ≤ cs.length ∧ cs.length - i ≤ gk ∧ t27 = .int .i64 (i : Int) ∧ t8 = .bool a.op ∧ t9 = .bool a.ov ∧ t10 = .int .i64 (pos : Int) ∧ Hid (Fs w6 W zs cs (w.heap.size + 1) (w.heap.size + 1 + 1) i pos s kv gv lv tv a Ne))
  case atStart => exact ⟨_, 0, 0, 0, _, _, _, _, _, Pu.Ac.nil, rfl, Nat.zero_le _, by omega, rfl, rfl, rfl, rfl, HFS0⟩
  case round =>
    obtain ⟨W, i, pos, Ne, s, kv, gv, lv, tv, a, rfl, hi0, hgk, rfl, rfl, rfl, rfl, hFs⟩ := hrel
    clear HFS0
    by_cases hlt : i < cs.length
    · have hlt1 : (i : Int) < (cs.length : Int) := by omega
      clear HK6 HP HR6
      refine wp_seq_k (fun KA hKA => ?_)
      have HKA : Hid _ := hKA
      clear hKA
      go_wp2_with fail
      refine HKA.out _ _ ?_
      clear HKA KA
      refine wp_seq_k (fun KB hKB => ?_)
      have HKB : Hid _ := hKB
      clear hKB
      go_wp2_with fail
      refine HKB.out _ _ ?_
      clear HKB KB
      refine wp_seq_k (fun KC hKC => ?_)
      have HKC : Hid _ := hKC
      clear hKC
      refine round_w w w6 W zs cs (w.heap.size + 1) (w.heap.size + 1 + 1) GC c6 i pos Ne s kv gv lv tv _ a _ hFs.out hlt HB.out HB06.out (by omega) (by omega) (by omega) (by omega) (by omega) HA.out hzl HCE.out hGC6 (by omega) (by omega) (by omega) HLB.out HF.out _ _ _ _ _ _ _ _ _ _ _ _ _ _ _ _ _ _ _ _ _ _ _ _ _ _ _ _ _ _ _ _ _ _ _ _ _ _ _ _ _ _ _ _ _ _ _ _ _ _ _ _ _ _ _ _ _ _ _ _ _ _ _ _ _ _ _ _ _ _ _ _ _ _ _ _ _ _ _ _ _ _ _ _ _ _ _ _ _ _ _ _ _ _ _ _ _ _ _ _ _ _ _ _ _ _ _ _ _ _ _ _ _ _ _ _ _ _ _ _ _ _ _ _ _ _ _ _ _ _ _ _ _ _ _ _ _ _ _ _ _ _ _ _ _ ?_
      intro r5 r12 r14 r15 r16 r29 r30 r31 r32 r33 r34 r35 r36 r37 r38 r39 r40 r41 r42 r43 r44 r45 r46 r47 r48 r49 r50 r51 r52 r53 r54 r55 r56 r57 r58 r59 r60 r61 r62 r63 r64 r65 r66 r67 r68 r69 r70 r71 r72 r73 r74 r75 r76 r77 r78 r79 r80 r81 r82 r83 r84 r85 r86 r87 r88 r89 r90 r91 r92 r93 r94 r95 r96 r97 r98 r99 r100 r101 r102 r103 r104 r105 r106 r107 r108 r109 r110 r111 r112 r113 r114 r115 r116 r117 r118 r119 r120 r121 r122 r123 r124 r125 r126 r127 r128 r129 r130 r131 r132 r133 r134 r135 r136 r137 r138 r139 r140 W2 sN kv2 gv2 lv2 tv2 aE Ne2 hF2
      show KC _ _
      have HF2 : Hid _ := hF2
      clear hF2 hFs
      refine HKC.out _ _ ?_
      clear HKC KC
      go_wp2_with fail
      go_roundg (cs.length - (i + 1))
      case rel => exact ⟨_, i + 1, pos + cutN zs cs i pos, Ne2, sN, kv2, gv2, lv2, tv2, aE, rfl, by omega, Nat.le_refl _, by simp, rfl, rfl, by simp, HF2⟩
      case measure => omega
    · have hie : i = cs.length := by omega
      subst hie
      have hf := hFs.out
      obtain ⟨_, _, hgo⟩ := fed_arch zs cuts
      have e1 := hf.eq1
      have e2 := hf.eq2
      rw [List.drop_eq_nil_of_le (Nat.le_refl _)] at e1 e2
      simp only [pcs, Pu.feeds, Pu.arcs, Option.some.injEq] at e1 e2
      rw [← e1, ← e2] at hgo
      have hfin : (finA zs).ts = a.ts ∧ (finA zs).dn = a.dn ∧ (finA zs).code = (if a.ov then a.code else 5) ∧ (finA zs).place = (if a.ov then a.place else (s.rd : Int)) := by
        unfold finA
        rw [← e1, ← e2]
        cases a.ov <;> exact ⟨rfl, rfl, rfl, rfl⟩
      have HFIN : Hid _ := hfin
      have HGO : Hid _ := hgo
      clear e1 e2 hgo hfin hf
      go_wp2_with fail
      refine HK6.out _ _ ?_
      have hf := hFs.out
      have hsz := hf.sz
      have hbW : Below w.heap.size w W := HB06.out.trans (hf.mv.below (by omega) (fun k hk => by rcases hk with hk | hk <;> omega))
      refine tail40_w W (w.heap.size + 1) (w.heap.size + 1 + 1) w.heap.size a s kv gv lv tv _ PP hf.pm hf.box (own_one hf.row) ((hf.still (by omega) (by omega) (by omega)).trans HR6.out) rfl (by omega) (F.Laid.below HF.out hbW) (by omega) HGO.out _ _ _ _ _ _ _ _ _ _ _ _ _ _ _ _ _ _ _ _ _ _ _ _ _ _ _ _ _ _ _ _ _ _ _ _ _ _ _ _ _ _ _ _ _ _ _ _ _ _ _ _ _ _ _ _ _ _ _ _ _ _ _ _ _ _ _ _ _ _ _ _ _ _ _ _ _ _ _ _ _ _ _ _ _ _ _ _ _ _ _ _ _ _ _ _ _ _ _ _ _ _ _ _ _ _ _ _ _ _ _ _ _ _ _ _ _ _ _ _ _ _ _ _ _ _ _ _ _ _ _ _ _ _ _ _ _ _ _ _ _ _ _ _ _ _ _ _ _ ?_
      intro W2 b b1 b2 b3 b4 hm
      have htvl : ∀ k, tv.ownBlock = some k → k < W.heap.size := fun k hk => (own_lt hf.row hk).1
      refine HP.out tv b _ (b1.trans HFIN.out.1.symm) (b2.trans HFIN.out.2.1.symm) (b3.trans HFIN.out.2.2.1.symm) (b4.trans HFIN.out.2.2.2.symm) ?_ ?_ (fun k hk => by have := (hf.tvb k hk).1; omega)
      · rw [b1]
        exact own_moved hf.row fun k hk => by
          have h1 := (hf.tvb k hk).1
          rw [setRow_other _ _ _ _ (by omega)]
          exact hm.block k (htvl k hk) (by omega)
      · exact below_setRow (hbW.trans (hm.below hbW.size (fun k hk => by omega))) (Nat.le_refl _) _
end Go.Proofs.YtnmmaedngdibeaaGreatDoor

namespace Go.Proofs.YtnmmaedngdibeaaGreatDoor
open Go.RowKit
set_option linter.unusedVariables false
set_option linter.unusedSimpArgs false

theorem eq_str (D : Nat) (s : ByteArray) (W : World) : (Op.equalIn (D + 1) 9 (.string s) (.string s)).run Tryz.prog W = .ok true W := by rw [run_equalIn_string W D 9 _ _ Tryz.underlying9]; simp
theorem eq_int (D : Nat) (z : Int) (W : World) : (Op.equalIn (D + 1) 3 (.int .i64 z) (.int .i64 z)).run Tryz.prog W = .ok true W := by rw [run_equalIn_int W D 3 _ _ _ _ Tryz.underlying3]; simp
theorem eq_i64 (D : Nat) (z : Int) (W : World) : (Op.equalIn (D + 1) 2 (.int .i64 z) (.int .i64 z)).run Tryz.prog W = .ok true W := by rw [run_equalIn_int W D 2 _ _ _ _ Tryz.underlying2]; simp
theorem eq_bool (D : Nat) (z : Bool) (W : World) : (Op.equalIn (D + 1) 4 (.bool z) (.bool z)).run Tryz.prog W = .ok true W := by rw [run_equalIn_bool' W D 4 _ _ Tryz.underlying4]; simp
set_option maxRecDepth 100000 in
set_option maxHeartbeats 1000000 in
theorem entry_same (D : Nat) (y : E.En) (W : World) : (Op.equalIn (D + 2) 33 (.agg y.cells) (.agg y.cells)).run Tryz.prog W = .ok true W := by
  rw [run_equalIn_struct W (D + 1) 33 _ _ (by kernel_rfl) (by kernel_rfl)]
  rw [show (Tryz.prog.fieldsOf 33) = _ from by unfold Program.fieldsOf; rw [Tryz.underlying33]]
  have x0 : (part 9 y.cells 0).run Tryz.prog W = .ok (.string y.path) W := by kernel_rfl
  have e0 : (Op.equalIn (D + 1) 9 (.string y.path) (.string y.path)).run Tryz.prog W = .ok true W := eq_str D _ W
  have x1 : (part 9 y.cells 1).run Tryz.prog W = .ok (.string y.link) W := by kernel_rfl
  have e1 : (Op.equalIn (D + 1) 9 (.string y.link) (.string y.link)).run Tryz.prog W = .ok true W := eq_str D _ W
  have x2 : (part 3 y.cells 2).run Tryz.prog W = .ok (.int .i64 y.kind) W := by kernel_rfl
  have e2 : (Op.equalIn (D + 1) 3 (.int .i64 y.kind) (.int .i64 y.kind)).run Tryz.prog W = .ok true W := eq_int D _ W
  have x3 : (part 3 y.cells 3).run Tryz.prog W = .ok (.int .i64 y.mode) W := by kernel_rfl
  have e3 : (Op.equalIn (D + 1) 3 (.int .i64 y.mode) (.int .i64 y.mode)).run Tryz.prog W = .ok true W := eq_int D _ W
  have x4 : (part 2 y.cells 4).run Tryz.prog W = .ok (.int .i64 y.uid) W := by kernel_rfl
  have e4 : (Op.equalIn (D + 1) 2 (.int .i64 y.uid) (.int .i64 y.uid)).run Tryz.prog W = .ok true W := eq_i64 D _ W
  have x5 : (part 2 y.cells 5).run Tryz.prog W = .ok (.int .i64 y.gid) W := by kernel_rfl
  have e5 : (Op.equalIn (D + 1) 2 (.int .i64 y.gid) (.int .i64 y.gid)).run Tryz.prog W = .ok true W := eq_i64 D _ W
  have x6 : (part 2 y.cells 6).run Tryz.prog W = .ok (.int .i64 y.mtime) W := by kernel_rfl
  have e6 : (Op.equalIn (D + 1) 2 (.int .i64 y.mtime) (.int .i64 y.mtime)).run Tryz.prog W = .ok true W := eq_i64 D _ W
  have x7 : (part 2 y.cells 7).run Tryz.prog W = .ok (.int .i64 y.size) W := by kernel_rfl
  have e7 : (Op.equalIn (D + 1) 2 (.int .i64 y.size) (.int .i64 y.size)).run Tryz.prog W = .ok true W := eq_i64 D _ W
  have x8 : (part 9 y.cells 8).run Tryz.prog W = .ok (.string y.user) W := by kernel_rfl
  have e8 : (Op.equalIn (D + 1) 9 (.string y.user) (.string y.user)).run Tryz.prog W = .ok true W := eq_str D _ W
  have x9 : (part 9 y.cells 9).run Tryz.prog W = .ok (.string y.group) W := by kernel_rfl
  have e9 : (Op.equalIn (D + 1) 9 (.string y.group) (.string y.group)).run Tryz.prog W = .ok true W := eq_str D _ W
  simp only [Op.eqFields]
  rw [if_pos (by decide), Sem.run_bind, x0, Result.andThen_ok, Sem.run_bind, x0, Result.andThen_ok, Sem.run_bind, e0, Result.andThen_ok, Sem.run_ite, if_neg (by decide)]
  rw [if_pos (by decide), Sem.run_bind, x1, Result.andThen_ok, Sem.run_bind, x1, Result.andThen_ok, Sem.run_bind, e1, Result.andThen_ok, Sem.run_ite, if_neg (by decide)]
  rw [if_pos (by decide), Sem.run_bind, x2, Result.andThen_ok, Sem.run_bind, x2, Result.andThen_ok, Sem.run_bind, e2, Result.andThen_ok, Sem.run_ite, if_neg (by decide)]
  rw [if_pos (by decide), Sem.run_bind, x3, Result.andThen_ok, Sem.run_bind, x3, Result.andThen_ok, Sem.run_bind, e3, Result.andThen_ok, Sem.run_ite, if_neg (by decide)]
  rw [if_pos (by decide), Sem.run_bind, x4, Result.andThen_ok, Sem.run_bind, x4, Result.andThen_ok, Sem.run_bind, e4, Result.andThen_ok, Sem.run_ite, if_neg (by decide)]
  rw [if_pos (by decide), Sem.run_bind, x5, Result.andThen_ok, Sem.run_bind, x5, Result.andThen_ok, Sem.run_bind, e5, Result.andThen_ok, Sem.run_ite, if_neg (by decide)]
  rw [if_pos (by decide), Sem.run_bind, x6, Result.andThen_ok, Sem.run_bind, x6, Result.andThen_ok, Sem.run_bind, e6, Result.andThen_ok, Sem.run_ite, if_neg (by decide)]
  rw [if_pos (by decide), Sem.run_bind, x7, Result.andThen_ok, Sem.run_bind, x7, Result.andThen_ok, Sem.run_bind, e7, Result.andThen_ok, Sem.run_ite, if_neg (by decide)]
  rw [if_pos (by decide), Sem.run_bind, x8, Result.andThen_ok, Sem.run_bind, x8, Result.andThen_ok, Sem.run_bind, e8, Result.andThen_ok, Sem.run_ite, if_neg (by decide)]
  rw [if_pos (by decide), Sem.run_bind, x9, Result.andThen_ok, Sem.run_bind, x9, Result.andThen_ok, Sem.run_bind, e9, Result.andThen_ok, Sem.run_ite, if_neg (by decide)]
  rfl
set_option maxRecDepth 100000 in
set_option maxHeartbeats 1000000 in
theorem thing_same (t : ThE) (W : World) : (Op.equalIn 10000 35 (.agg (thCells t).toArray) (.agg (thCells t).toArray)).run Tryz.prog W = .ok true W := by
  rw [run_equalIn_struct W 9999 35 _ _ (by kernel_rfl) (by kernel_rfl)]
  rw [show (Tryz.prog.fieldsOf 35) = _ from by unfold Program.fieldsOf; rw [Tryz.underlying35]]
  have x0 : (part 33 (thCells t).toArray 0).run Tryz.prog W = .ok (.agg t.e.cells) W := by kernel_rfl
  have e0 : (Op.equalIn 9999 33 (.agg t.e.cells) (.agg t.e.cells)).run Tryz.prog W = .ok true W := entry_same 9997 t.e W
  have x1 : (part 9 (thCells t).toArray 10).run Tryz.prog W = .ok (.string (strB t.d)) W := by kernel_rfl
  have e1 : (Op.equalIn 9999 9 (.string (strB t.d)) (.string (strB t.d))).run Tryz.prog W = .ok true W := eq_str 9998 _ W
  have x2 : (part 4 (thCells t).toArray 11).run Tryz.prog W = .ok (.bool t.wh) W := by kernel_rfl
  have e2 : (Op.equalIn 9999 4 (.bool t.wh) (.bool t.wh)).run Tryz.prog W = .ok true W := eq_bool 9998 _ W
  have x3 : (part 3 (thCells t).toArray 12).run Tryz.prog W = .ok (.int .i64 (t.p : Int)) W := by kernel_rfl
  have e3 : (Op.equalIn 9999 3 (.int .i64 (t.p : Int)) (.int .i64 (t.p : Int))).run Tryz.prog W = .ok true W := eq_int 9998 _ W
  simp only [Op.eqFields]
  rw [if_pos (by decide), Sem.run_bind, x0, Result.andThen_ok, Sem.run_bind, x0, Result.andThen_ok, Sem.run_bind, e0, Result.andThen_ok, Sem.run_ite, if_neg (by decide)]
  rw [if_pos (by decide), Sem.run_bind, x1, Result.andThen_ok, Sem.run_bind, x1, Result.andThen_ok, Sem.run_bind, e1, Result.andThen_ok, Sem.run_ite, if_neg (by decide)]
  rw [if_pos (by decide), Sem.run_bind, x2, Result.andThen_ok, Sem.run_bind, x2, Result.andThen_ok, Sem.run_bind, e2, Result.andThen_ok, Sem.run_ite, if_neg (by decide)]
  rw [if_pos (by decide), Sem.run_bind, x3, Result.andThen_ok, Sem.run_bind, x3, Result.andThen_ok, Sem.run_bind, e3, Result.andThen_ok, Sem.run_ite, if_neg (by decide)]
  rfl
theorem th_at : ∀ (L : List ThE) (i : Nat) (h : i < L.length) (j : Nat) (u : Value), (thCells L[i])[j]? = some u → (L.flatMap thCells)[i * 13 + j]? = some u
  | a :: r, 0, h, j, u, hj => by
    simp only [List.getElem_cons_zero] at hj
    rw [List.flatMap_cons, Nat.zero_mul, Nat.zero_add]
    exact List.getElem?_append_left (by have := (List.getElem?_eq_some_iff.1 hj).1; exact this) ▸ hj
  | a :: r, i + 1, h, j, u, hj => by
    simp only [List.getElem_cons_succ] at hj
    rw [List.flatMap_cons, List.getElem?_append_right (by rw [thCells_len]; omega), thCells_len]
    have := th_at r i (by simpa using h) j u hj
    rw [show (i + 1) * 13 + j - 13 = i * 13 + j from by omega]
    exact this
/-- a thing of a row -/
theorem ThS.row {W : World} {v : Value} {ts : List ThE} (h : ThS W v ts) (i : Nat) (hi : i < ts.length) : ∃ G c, v = .slice (some ⟨G, 0, none⟩) ts.length c ∧ G < W.heap.size ∧ W.rangeAt G (i * 13) (thCells ts[i]) := by
  rcases id h.2 with ⟨e1, e2⟩ | ⟨G, cap, cur, e1, e2, e3, e4, e5, e6, e7⟩
  · omega
  · subst e1
    refine ⟨G, cap, rfl, lt_of_heap e3, fun j u hj => ?_⟩
    have := World.ownsRow.cells h (g := G) rfl (i * 13 + j) u (th_at ts i hi j u hj)
    rw [add_at, Nat.zero_add] at this
    exact this
theorem range_moved {w W : World} {G o : Nat} {cs : List Value} (h : w.rangeAt G o cs) (e : W.heap[G]? = w.heap[G]?) : W.rangeAt G o cs := fun j u hj => by
  have := h j u hj
  simp only [World.cell?] at this ⊢
  rw [e]
  exact this
theorem sizeTh : (Tryz.prog.info? 35).map (·.size) = some 13 := by kernel_rfl
theorem guardTh : Tryz.prog.eqGuardType Tryz.prog.depth 35 = false := by kernel_rfl

set_option maxRecDepth 100000 in
set_option maxHeartbeats 8000000 in
theorem same_w (w : World) (tv1 tv2 : Value) (A B : AcE) (h1 : ThS w tv1 A.ts) (h2 : ThS w tv2 B.ts) (ht : A.ts = B.ts) (hd : A.dn = B.dn) (hc : A.code = B.code) (hp : A.place = B.place) (hl : A.ts.length ≤ 1000000) :
    Calls Tryz.prog 12 #[.agg (arC tv1 A), .agg (arC tv2 B)] w fun e w' => e = .returned (.bool true) ∧ Below w.heap.size w w' := by
  have eB : arC tv2 B = arC tv2 A := by unfold arC; rw [hd, hc, hp]
  rw [eB]
  rw [← ht] at h2
  clear eB ht hd hc hp
  obtain ⟨a1, c1, rfl, _⟩ := own_sl h1
  obtain ⟨a2, c2, rfl, _⟩ := own_sl h2
  have H1 : Hid (ThS w _ A.ts) := h1
  have H2 : Hid (ThS w _ A.ts) := h2
  clear h1 h2
  unfold arC
  have hsiT := sizeTh
  have hgu := guardTh
  obtain ⟨PP, hPP⟩ : ∃ PP : Ending → World → Prop, PP = fun e w' => e = .returned (.bool true) ∧ Below w.heap.size w w' := ⟨_, rfl⟩
  rw [← hPP]
  have HP : Hid (∀ W, Below w.heap.size w W → PP (.returned (.bool true)) W) := fun W b => by rw [hPP]; exact ⟨rfl, b⟩
  clear hPP
  obtain ⟨w2, hw2⟩ : ∃ w2, w2 = ((w.alloc (.cells #[.slice a1 A.ts.length c1, .bool A.dn, .int .i64 A.code, .int .i64 A.place] 27)).alloc (.cells #[.slice a2 A.ts.length c2, .bool A.dn, .int .i64 A.code, .int .i64 A.place] 27)) := ⟨_, rfl⟩
  have b1 : Below w.heap.size w (w.alloc (.cells #[.slice a1 A.ts.length c1, .bool A.dn, .int .i64 A.code, .int .i64 A.place] 27)) := (Below.refl _ w).alloc (Nat.le_refl _) _
  have b2 : Below w.heap.size w w2 := by rw [hw2]; exact b1.alloc (by simp) _
  have q1 : w2.heap[w.heap.size]? = some (.cells #[.slice a1 A.ts.length c1, .bool A.dn, .int .i64 A.code, .int .i64 A.place] 27 (0, 0)) := by
    rw [hw2]
    have h0 := heap_alloc_new w (.cells #[.slice a1 A.ts.length c1, .bool A.dn, .int .i64 A.code, .int .i64 A.place] 27)
    exact (((Below.refl (w.heap.size + 1) _).alloc (by simp) _).block w.heap.size (by omega)).trans h0
  have q2 : w2.heap[w.heap.size + 1]? = some (.cells #[.slice a2 A.ts.length c2, .bool A.dn, .int .i64 A.code, .int .i64 A.place] 27 (0, 0)) := by
    have h0 := heap_alloc_new (w.alloc (.cells #[.slice a1 A.ts.length c1, .bool A.dn, .int .i64 A.code, .int .i64 A.place] 27)) (.cells #[.slice a2 A.ts.length c2, .bool A.dn, .int .i64 A.code, .int .i64 A.place] 27)
    rw [hw2]
    simpa using h0
  have HQ1 : Hid _ := q1
  have HQ2 : Hid _ := q2
  have HB2 : Hid (Below w.heap.size w w2) := b2
  have HCL : Hid (∀ (W : World), W.heap = w2.heap → (∀ i, W.cell? ⟨w.heap.size, i, none⟩ = (#[.slice a1 A.ts.length c1, .bool A.dn, .int .i64 A.code, .int .i64 A.place] : Array Value)[i]?) ∧ (∀ i, W.cell? ⟨w.heap.size + 1, i, none⟩ = (#[.slice a2 A.ts.length c2, .bool A.dn, .int .i64 A.code, .int .i64 A.place] : Array Value)[i]?)) := fun W e => by
    exact ⟨fun i => by simp only [World.cell?, e, HQ1.out]; rfl, fun i => by simp only [World.cell?, e, HQ2.out]; rfl⟩
  have HW2 : Hid _ := hw2
  clear q1 q2 b1 b2 hw2
  go_enter Tryz.func12, Tryz.ntmps12
  go_wp2_with fail
  rw [← HW2.out]
  clear HW2
  go_loopg [37] A.ts.length (fun gk t37 W => ∃ (Wn : World) (i : Nat), Wn = W ∧ i ≤ A.ts.length ∧ A.ts.length - i ≤ gk ∧ t37 = .int .i64 (i : Int) ∧ Hid (W.heap = w2.heap) ∧ Hid (Below w.heap.size w W))
  case atStart => exact ⟨_, 0, rfl, Nat.zero_le _, by omega, rfl, rfl, HB2.out⟩
  case round =>
    obtain ⟨W, i, rfl, hi0, hgk, rfl, HE, HBW⟩ := hrel
    by_cases hlt : i < A.ts.length
    · have hlt1 : (i : Int) < (A.ts.length : Int) := by omega
      obtain ⟨G1, d1, k1, g1, r1⟩ := H1.out.row i hlt
      obtain ⟨G2, d2, k2, g2, r2⟩ := H2.out.row i hlt
      cases k1
      cases k2
      obtain ⟨y1, y2⟩ := HCL.out W HE.out
      have m1 : W.rangeAt G1 (i * 13) (thCells A.ts[i]) := range_moved r1 (HBW.out.block G1 g1)
      have m2 : W.rangeAt G2 (i * 13) (thCells A.ts[i]) := range_moved r2 (HBW.out.block G2 g2)
      have hts := thing_same A.ts[i]
      have hln : (thCells A.ts[i]).length = 13 := thCells_len _
      have hsz : (Tryz.prog.info? 35).map (·.size) = some (thCells A.ts[i]).length := by rw [hln]; exact sizeTh
      generalize thCells A.ts[i] = C at *
      have HM1 : Hid _ := m1
      have HM2 : Hid _ := m2
      have HSZ : Hid _ := hsz
      clear r1 r2 H1 H2 HCL HP hln m1 m2 hsz
      go_upto_region 6 with fail
      refine wp_region_held_drew (S := (fun W' : World => W' = W.drew)) (by kernel_rfl) rfl (fun hHeld => ?_)
      refine wpAnyH_take (i := 0) (oi := { dst := some 40, op := Op.fieldAddr 27 (Operand.tmp 2) 0, type := 0, pos := "law.go:84", after := #[], guard := none }) (v := ?_) rfl (by kernel_rfl) (by kernel_rfl) (by kernel_rfl) (fun _ _ _ h => h) (Or.inl ⟨by rfl, ?_⟩) (by assumption) ?_
      rotate_left 1
      · (intro W hSw; subst hSw; go_simp; try with_reducible rfl)
      (try simp only [Act.put, List.setIfInBounds_toArray, List.set_cons_zero, List.set_cons_succ])
      refine wpAnyH_take (i := 1) (oi := { dst := some 41, op := Op.load 25 (Operand.tmp 40), type := 25, pos := "law.go:84", after := #[{ on := 0, ground := Ground.data }], guard := none }) (v := ?_) rfl (by kernel_rfl) (by kernel_rfl) (by kernel_rfl) (fun _ _ _ h => h) (Or.inl ⟨by rfl, ?_⟩) (by assumption) ?_
      rotate_left 1
      · (intro W hSw; subst hSw; go_simp; try with_reducible rfl)
      (try simp only [Act.put, List.setIfInBounds_toArray, List.set_cons_zero, List.set_cons_succ])
      refine wpAnyH_take (i := 2) (oi := { dst := some 42, op := Op.move (Operand.tmp 5), type := 3, pos := "law.go:84", after := #[], guard := none }) (v := ?_) rfl (by kernel_rfl) (by kernel_rfl) (by kernel_rfl) (fun _ _ _ h => h) (Or.inl ⟨by rfl, ?_⟩) (by assumption) ?_
      rotate_left 1
      · (intro W hSw; subst hSw; go_simp; try with_reducible rfl)
      (try simp only [Act.put, List.setIfInBounds_toArray, List.set_cons_zero, List.set_cons_succ])
      refine wpAnyH_take (i := 3) (oi := { dst := some 43, op := Op.indexAddr 25 (Operand.tmp 41) (Operand.tmp 42), type := 0, pos := "law.go:84", after := #[{ on := 1, ground := Ground.data }, { on := 2, ground := Ground.data }], guard := none }) (v := ?_) rfl (by kernel_rfl) (by kernel_rfl) (by kernel_rfl) (fun _ _ _ h => h) (Or.inl ⟨by rfl, ?_⟩) (by assumption) ?_
      rotate_left 1
      · (intro W hSw; subst hSw; go_simp; try with_reducible rfl)
      (try simp only [Act.put, List.setIfInBounds_toArray, List.set_cons_zero, List.set_cons_succ])
      refine wpAnyH_take (i := 4) (oi := { dst := some 44, op := Op.load 35 (Operand.tmp 43), type := 35, pos := "law.go:84", after := #[{ on := 3, ground := Ground.data }], guard := none }) (v := .agg C.toArray) rfl (by kernel_rfl) (by kernel_rfl) (by kernel_rfl) (fun _ _ _ h => h) (yieldsIf_load_mid (by rfl) _ _ rfl G1 _ rfl C _ (fun w' hw' => by subst hw'; exact HM1.out) Tryz.underlying35 rfl HSZ.out) (by assumption) ?_
      (try simp only [Act.put, List.setIfInBounds_toArray, List.set_cons_zero, List.set_cons_succ])
      refine wpAnyH_take (i := 5) (oi := { dst := some 45, op := Op.fieldAddr 27 (Operand.tmp 3) 0, type := 0, pos := "law.go:84", after := #[], guard := none }) (v := ?_) rfl (by kernel_rfl) (by kernel_rfl) (by kernel_rfl) (fun _ _ _ h => h) (Or.inl ⟨by rfl, ?_⟩) (by assumption) ?_
      rotate_left 1
      · (intro W hSw; subst hSw; go_simp; try with_reducible rfl)
      (try simp only [Act.put, List.setIfInBounds_toArray, List.set_cons_zero, List.set_cons_succ])
      refine wpAnyH_take (i := 6) (oi := { dst := some 46, op := Op.load 25 (Operand.tmp 45), type := 25, pos := "law.go:84", after := #[{ on := 5, ground := Ground.data }], guard := none }) (v := ?_) rfl (by kernel_rfl) (by kernel_rfl) (by kernel_rfl) (fun _ _ _ h => h) (Or.inl ⟨by rfl, ?_⟩) (by assumption) ?_
      rotate_left 1
      · (intro W hSw; subst hSw; go_simp; try with_reducible rfl)
      (try simp only [Act.put, List.setIfInBounds_toArray, List.set_cons_zero, List.set_cons_succ])
      refine wpAnyH_take (i := 7) (oi := { dst := some 47, op := Op.move (Operand.tmp 5), type := 3, pos := "law.go:84", after := #[], guard := none }) (v := ?_) rfl (by kernel_rfl) (by kernel_rfl) (by kernel_rfl) (fun _ _ _ h => h) (Or.inl ⟨by rfl, ?_⟩) (by assumption) ?_
      rotate_left 1
      · (intro W hSw; subst hSw; go_simp; try with_reducible rfl)
      (try simp only [Act.put, List.setIfInBounds_toArray, List.set_cons_zero, List.set_cons_succ])
      refine wpAnyH_take (i := 8) (oi := { dst := some 48, op := Op.indexAddr 25 (Operand.tmp 46) (Operand.tmp 47), type := 0, pos := "law.go:84", after := #[{ on := 6, ground := Ground.data }, { on := 7, ground := Ground.data }], guard := none }) (v := ?_) rfl (by kernel_rfl) (by kernel_rfl) (by kernel_rfl) (fun _ _ _ h => h) (Or.inl ⟨by rfl, ?_⟩) (by assumption) ?_
      rotate_left 1
      · (intro W hSw; subst hSw; go_simp; try with_reducible rfl)
      (try simp only [Act.put, List.setIfInBounds_toArray, List.set_cons_zero, List.set_cons_succ])
      refine wpAnyH_take (i := 9) (oi := { dst := some 49, op := Op.load 35 (Operand.tmp 48), type := 35, pos := "law.go:84", after := #[{ on := 8, ground := Ground.data }], guard := none }) (v := .agg C.toArray) rfl (by kernel_rfl) (by kernel_rfl) (by kernel_rfl) (fun _ _ _ h => h) (yieldsIf_load_mid (by rfl) _ _ rfl G2 _ rfl C _ (fun w' hw' => by subst hw'; exact HM2.out) Tryz.underlying35 rfl HSZ.out) (by assumption) ?_
      (try simp only [Act.put, List.setIfInBounds_toArray, List.set_cons_zero, List.set_cons_succ])
      refine wpAnyH_take (i := 10) (oi := { dst := some 50, op := Op.binOp BinOp.neq 35 (Operand.tmp 44) (Operand.tmp 49) 35, type := 4, pos := "law.go:84", after := #[{ on := 4, ground := Ground.data }, { on := 9, ground := Ground.data }], guard := none }) (v := ?_) rfl (by kernel_rfl) (by kernel_rfl) (by kernel_rfl) (fun _ _ _ h => h) (Or.inl ⟨by rfl, ?_⟩) (by assumption) ?_
      rotate_left 1
      · (intro W hSw; subst hSw; go_simp; try with_reducible rfl)
      (try simp only [Act.put, List.setIfInBounds_toArray, List.set_cons_zero, List.set_cons_succ])
      refine wpAnyH_done (by kernel_rfl) ?_ _
      go_wp2_with fail
      go_roundg (A.ts.length - (i + 1))
      case rel => exact ⟨_, i + 1, rfl, by omega, Nat.le_refl _, by simp, HE, ⟨HBW.out.os, HBW.out.tape, HBW.out.output, HBW.out.size, HBW.out.block⟩⟩
      case measure => omega
    · have hie : i = A.ts.length := by omega
      subst hie
      have F := HP.out W HBW.out
      have HF : Hid _ := F
      clear HP F H1 H2 HCL HE
      go_wp2_with fail
      exact HF.out
end Go.Proofs.YtnmmaedngdibeaaGreatDoor

