/-
  Contract: extent.ownLast: a block of its own in the place of a content's last one.
-/
import Derived.Test.YtpjfhfbjdcgbjabClone
import Derived.Deep.RegionHeld3
namespace Go.Proofs.Ytpjfhfbjdcgbjab
open Go.RowKit
set_option linter.unusedVariables false
set_option linter.unusedSimpArgs false

structure Keeps4 (p S F g : Nat) (w w' : World) : Prop where
  os : w'.os = w.os
  tape : w'.tape = w.tape
  output : w'.output = w.output
  size : w.heap.size ≤ w'.heap.size
  block : ∀ k, k < w.heap.size → k ≠ p → k ≠ S → k ≠ F → k ≠ g → w'.heap[k]? = w.heap[k]?

theorem Keeps4.of {p S F g : Nat} {w w' : World} (h : Keeps p S F w w') : Keeps4 p S F g w w' := ⟨h.os, h.tape, h.output, h.size, fun k h1 h2 h3 h4 _ => h.block k h1 h2 h3 h4⟩
theorem Keeps4.ofBelow {p S F g : Nat} {w w' : World} (h : Below w.heap.size w w') : Keeps4 p S F g w w' := ⟨h.os, h.tape, h.output, h.size, fun k h1 _ _ _ _ => h.block k h1⟩
theorem Keeps4.trans {p S F g : Nat} {a b c : World} (h : Keeps4 p S F g a b) (k : Keeps4 p S F g b c) : Keeps4 p S F g a c :=
  ⟨k.os.trans h.os, k.tape.trans h.tape, k.output.trans h.output, Nat.le_trans h.size k.size, fun i hi h1 h2 h3 h4 => (k.block i (Nat.lt_of_lt_of_le hi h.size) h1 h2 h3 h4).trans (h.block i hi h1 h2 h3 h4)⟩
theorem Keeps4.setCell {p S F g : Nat} {a w : World} (h : Keeps4 p S F g a w) {x : Addr} (hx : x.block = g) (u : Value) : Keeps4 p S F g a (w.setCell x u) :=
  h.trans ⟨rfl, rfl, rfl, by simp [World.setCell], fun k _ _ _ _ _ => Below.heap_setCell _ _ _ _ (by omega)⟩

theorem below_push (w : World) (o : Obj) : Below w.heap.size w (w.alloc o).drew := ((Below.refl _ w).alloc (Nat.le_refl _) o).drew
def Since (w W : World) : Prop := ∃ n, W = w.drewN n
theorem Since.refl (w : World) : Since w w := ⟨0, rfl⟩
theorem since_drew {w W : World} {p q r : Prop} (h : Since w W ∧ p ∧ q ∧ r) : Since w W.drew ∧ p ∧ q ∧ r := ⟨by obtain ⟨⟨n, rfl⟩, _⟩ := h; exact ⟨n + 1, by simp [World.drewN, World.drew]; omega⟩, h.2⟩

set_option maxHeartbeats 1000000 in
theorem own_last {w : World} {p S F : Nat} {ss : List Slot} {l : List Nat} {j : Nat} (h : Ar w p S F ss (l ++ [j])) (g cap m : Nat) (cur : List Value) (hg : w.heap[g]? = some (.cells cur.toArray 3 (0, 0))) (i : Nat) (hi : cur[m]? = some (.int .i64 (i : Int)))
    (s : Slot) (hs : ss[i]? = some s) (k : Nat) (hk : s.holds = k + 2) (sz : Nat) (hz : sz ≤ 1048576) (hm : m ≤ 16384) (gp : g ≠ p) (gS : g ≠ S) (gF : g ≠ F) :
    Calls Try.prog 20 #[.pointer (some ⟨p, 0, none⟩), .agg #[.slice (some ⟨g, 0, none⟩) (m + 1) cap, .int .i64 (sz : Int)]] w
      fun e w' => e = .returned (.tuple #[]) ∧ Ar w' p S F ((ss.set j ⟨splice (zeros 64) 0 (part s.bytes 0 (sz % 64)), 1⟩).set i ⟨s.bytes, k + 1⟩) l ∧ w'.heap[g]? = some (.cells (cur.set m (.int .i64 (j : Int))).toArray 3 (0, 0)) ∧ Keeps4 p S F g w w' := by
  have hjf : ss[j]? = some Slot.none := h.good.take.2
  have hij : i ≠ j := by rintro rfl; rw [hs] at hjf; cases hjf; simp [Slot.none] at hk
  have hb64 := h.good.whole s (mem_of_some hs)
  have hmod : sz % 64 ≤ 64 := by omega
  have gl := lt_of_heap hg
  have em : (sz : Int) % 64 = ((sz % 64 : Nat) : Int) := by omega
  have hpl : (part s.bytes 0 (sz % 64)).length = sz % 64 := part_length _ _ _ (by omega)
  go_enter Try.func20, Try.ntmps20
  go_wp2_with fail
  have B1 := Box.mk w (.slice (some ⟨g, 0, none⟩) (m + 1) cap) sz
  have A1 := h.grow B1.below
  have G1 := (B1.below.block g gl).trans hg
  generalize w.alloc (.cells #[.slice (some ⟨g, 0, none⟩) (m + 1) cap, .int .i64 (sz : Int)] 35) = w1 at *
  have hr : Calls Try.prog 28 #[.pointer (some ⟨p, 0, none⟩), .int .i64 (i : Int), .int .i64 0, .int .i64 ((sz : Int) % 64)] w1.drew fun e w' => e = .returned (.tuple #[.slice (some ⟨w1.heap.size, 0, none⟩) (sz % 64) (sz % 64), .int .i64 0]) ∧ w' = w1.drew.alloc (.cells (cellsOf (part s.bytes 0 (sz % 64))).toArray 5) := by
    rw [em]; exact read_yes A1.drew i s hs (by omega) 0 (sz % 64) (by omega)
  have k0 := B1.c0
  have k1 := B1.c1
  have kg : w1.cell? ⟨g, m, none⟩ = some (.int .i64 (i : Int)) := by simp only [World.cell?, G1]; simpa using hi
  have b1 : (0 : Int) ≤ (m : Int) := by omega
  have b2 : (m : Int) < (m : Int) + 1 := by omega
  have b3 : IntKind.i64.wrap (m : Int) = m := by rw [IntKind.wrap_i64]; omega
  have HB : Hid _ := B1
  have HA : Hid _ := A1
  have HG : Hid _ := G1
  have Hh : Hid _ := h
  have Hk : Hid _ := hk
  have Hs : Hid _ := hs
  have Hg : Hid _ := hg
  have Hi : Hid _ := hi
  clear B1 A1 G1 h hk hs hg hi em
  have hcells : ∀ W, Below w1.heap.size w1 W → W.cell? ⟨w.heap.size, 0, none⟩ = some (.slice (some ⟨g, 0, none⟩) (m + 1) cap) ∧ W.cell? ⟨w.heap.size, 1, none⟩ = some (.int .i64 (sz : Int)) ∧ W.cell? ⟨g, m, none⟩ = some (.int .i64 (i : Int)) := fun W hb => by
    have l1 : w.heap.size < w1.heap.size := World.block_lt_of_cell? w1 _ k0
    have l2 : g < w1.heap.size := World.block_lt_of_cell? w1 _ kg
    exact ⟨(World.cell?_of_block (a := ⟨w.heap.size, 0, none⟩) (hb.block _ l1)).trans k0, (World.cell?_of_block (a := ⟨w.heap.size, 1, none⟩) (hb.block _ l1)).trans k1, (World.cell?_of_block (a := ⟨g, m, none⟩) (hb.block _ l2)).trans kg⟩
  have HC : Hid _ := hcells
  clear hcells
  go_region_held3 (fun W => Below w1.heap.size w1 W ∧ W.cell? ⟨w.heap.size, 0, none⟩ = some (.slice (some ⟨g, 0, none⟩) (m + 1) cap) ∧ W.cell? ⟨w.heap.size, 1, none⟩ = some (.int .i64 (sz : Int)) ∧ W.cell? ⟨g, m, none⟩ = some (.int .i64 (i : Int))) (first | exact ⟨(Below.refl _ _).drew, k0, k1, kg⟩ | assumption | exact And.intro (below_push _ _) (HC.out _ (below_push _ _)) | go_keep) (first | (go_at_call 28; refine hr.mono ?_; rintro e w2 ⟨rfl, h2⟩; have hb2 : Below w1.heap.size w1 w2 := (by rw [h2]; exact (Below.refl _ w1).drew.alloc (Nat.le_refl _) _); have hs2 := And.intro hb2 (HC.out _ hb2)))
  clear hs2 hb2 h2
  rename_i hHeld
  obtain ⟨bW, c0, c1, cg⟩ := hHeld
  have A2 := (HA.out.alloc (.cells (cellsOf (part s.bytes 0 (sz % 64))).toArray 5)).drew
  have S2 : Src (w1.alloc (.cells (cellsOf (part s.bytes 0 (sz % 64))).toArray 5)).drew (some ⟨w1.heap.size, 0, none⟩) (part s.bytes 0 (sz % 64)) := (src_alloc w1 _ 5).moved fun _ _ => rfl
  have N2 : Below w.heap.size w (w1.alloc (.cells (cellsOf (part s.bytes 0 (sz % 64))).toArray 5)).drew := (Box.below HB.out).trans (bW.mono (by have := (Box.below HB.out).size; omega))
  have G2 : (w1.alloc (.cells (cellsOf (part s.bytes 0 (sz % 64))).toArray 5)).drew.heap[g]? = some (.cells cur.toArray 3 (0, 0)) := (N2.block g gl).trans Hg.out
  have hl := Hh.out.lt
  have hs1 := (Box.below HB.out).size
  have hC : w.heap.size < w1.heap.size := World.block_lt_of_cell? w1 _ k0
  generalize (w1.alloc (.cells (cellsOf (part s.bytes 0 (sz % 64))).toArray 5)).drew = W2 at *
  have ht := take_yes l j A2
  clear hr k0 k1 kg b3 HA HG HC A2
  go_wp2_with fail
  refine ht.mono ?_
  rintro e w3 ⟨rfl, A3, K3⟩
  clear ht
  have S3 := S2.keeps K3 (by show w1.heap.size ≠ p; omega) (by show w1.heap.size ≠ S; omega) (by show w1.heap.size ≠ F; omega)
  have hw := write_yes A3 j ⟨zeros 64, 1⟩ (by rw [set_get, if_pos ⟨rfl, lt_of_some hjf⟩]) (by simp) 0 (some ⟨w1.heap.size, 0, none⟩) (part s.bytes 0 (sz % 64)) (sz % 64) (by omega) S3
  rw [hpl, List.set_set] at hw
  clear S2 S3 A3
  go_wp2_with fail
  refine hw.mono ?_
  rintro e w4 ⟨rfl, A4, K4⟩
  clear hw
  have K24 := K3.trans K4
  have lW := N2.size
  have x0 : w4.cell? ⟨w.heap.size, 0, none⟩ = some (.slice (some ⟨g, 0, none⟩) (m + 1) cap) := (World.cell?_of_block (a := ⟨w.heap.size, 0, none⟩) (K24.block _ (World.block_lt_of_cell? W2 _ c0) (by show w.heap.size ≠ p; omega) (by show w.heap.size ≠ S; omega) (by show w.heap.size ≠ F; omega))).trans c0
  have xg : w4.cell? ⟨g, m, none⟩ = some (.int .i64 (i : Int)) := (World.cell?_of_block (a := ⟨g, m, none⟩) (K24.block _ (World.block_lt_of_cell? W2 _ cg) gp gS gF)).trans cg
  have G4 : w4.heap[g]? = some (.cells cur.toArray 3 (0, 0)) := (K24.block g (lt_of_heap G2) gp gS gF).trans G2
  have hd := drop_more A4 i s k (by rw [set_get, if_neg (fun c => hij c.1)]; exact Hs.out) Hk.out
  clear A4 K3 K4 cg G2
  go_wp2_with fail
  refine hd.mono ?_
  rintro e w5 ⟨rfl, A5, K5⟩
  clear hd
  have y0 : w5.cell? ⟨w.heap.size, 0, none⟩ = some (.slice (some ⟨g, 0, none⟩) (m + 1) cap) := (World.cell?_of_block (a := ⟨w.heap.size, 0, none⟩) (K5.block _ (World.block_lt_of_cell? w4 _ x0) (by show w.heap.size ≠ p; omega) (by show w.heap.size ≠ S; omega) (by show w.heap.size ≠ F; omega))).trans x0
  have G5 : w5.heap[g]? = some (.cells cur.toArray 3 (0, 0)) := (K5.block g (lt_of_heap G4) gp gS gF).trans G4
  have yg : w5.cell? ⟨g, m, none⟩ = some (.int .i64 (i : Int)) := (World.cell?_of_block (a := ⟨g, m, none⟩) (K5.block _ (World.block_lt_of_cell? w4 _ xg) gp gS gF)).trans xg
  have yf : w5.frozen? ⟨g, m, none⟩ = false := by simp [World.frozen?, G5]
  have R6 : (w5.setCell ⟨g, m, none⟩ (.int .i64 (j : Int))).heap[g]? = some (.cells (cur.set m (.int .i64 (j : Int))).toArray 3 (0, 0)) := by
    rw [setCell_eq_setRow w5 g m _ _ _ _ G5, setRow_heap w5 g _ _ _ _ G5]; simp
  have A6 := A5.moved (w' := w5.setCell ⟨g, m, none⟩ (.int .i64 (j : Int))) (Below.heap_setCell _ _ _ _ gp.symm) (Below.heap_setCell _ _ _ _ gS.symm) (Below.heap_setCell _ _ _ _ gF.symm)
  have Q6 : Keeps4 p S F g w (w5.setCell ⟨g, m, none⟩ (.int .i64 (j : Int))) := by
    have q : Keeps4 p S F g w w5 := ((Keeps4.ofBelow N2).trans (Keeps4.of K24)).trans (Keeps4.of K5)
    exact q.setCell (x := ⟨g, m, none⟩) rfl _
  clear G4 G5 x0 xg A5 K5 K24
  have HR : Hid _ := R6
  clear R6
  go_wp2
  go_end0
  exact ⟨rfl, A6, HR.out, Q6⟩
end Go.Proofs.Ytpjfhfbjdcgbjab
