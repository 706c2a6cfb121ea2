/-
  Contract: extent.Read of a content whose bytes are there.
-/
import Derived.Test.YtpjfhfbjdcgbjabLies
namespace Go.Proofs.Ytpjfhfbjdcgbjab
open Go.RowKit
set_option linter.unusedVariables false
set_option linter.unusedSimpArgs false

theorem i5 : ∃ i, Try.prog.info? 5 = some i ∧ i.size = 1 ∧ i.bytes = 1 ∧ i.zero = some (.int .u8 0) := by
  have a : (Try.prog.info? 5).map (fun i => (i.size, i.bytes)) = some (1, 1) := by kernel_rfl
  have b : (Try.prog.info? 5).bind (fun i => i.zero) = some (.int .u8 0) := by kernel_rfl
  cases h : Try.prog.info? 5 with
  | none => rw [h] at a; simp at a
  | some i => rw [h] at a b; simp at a b; exact ⟨i, rfl, a.1, a.2, b⟩

/-- bytes in a row of one's own -/
def OwnB (w : World) (B : Nat) (v : Value) (zs : List Int) : Prop := w.ownsRow B 5 1 v zs.length (cellsOf zs)

theorem OwnB.moved {W W' : World} {B : Nat} {v : Value} {zs : List Int} (h : OwnB W B v zs) (hb : ∀ g, B ≤ g → g < W.heap.size → W'.heap[g]? = W.heap[g]?) : OwnB W' B v zs := by
  refine ⟨h.1, ?_⟩
  rcases h.2 with h2 | ⟨g, cap, cur, e1, e2, e3, e4⟩
  · exact .inl h2
  · exact .inr ⟨g, cap, cur, e1, e2, (hb g e2 (lt_of_heap e3)).trans e3, e4⟩

def slenR : Value → Nat
  | .slice _ n _ => n
  | _ => 0

theorem slen_eq (a : Option Addr) (n c : Nat) : slenR (.slice a n c) = n := rfl

theorem make0 (n : Nat) (hn : n ≤ 1048576) (w : World) : (Instr.makeSlice 30 (.int .i64 0) (.int .i64 (n : Int))).run Try.prog w = .ok (.slice (some ⟨w.heap.size, 0, none⟩) 0 n) (w.alloc (.cells (madeCells #[.int .u8 0] n) 5)) := by
  obtain ⟨i, hi, hs, hb, hz⟩ := i5
  have h := run_make (P := Try.prog) w 30 5 i _ Try.underlying30 hi hz .i64 .i64 0 n (by omega) (by omega) (by rw [hb]; omega) (by omega)
  rw [h, hs]
  simp
  rfl

set_option maxRecDepth 100000 in
set_option maxHeartbeats 8000000 in
theorem read_ext {w : World} {p S F : Nat} {ss : List Slot} {fr : List Nat} (h : Ar w p S F ss fr) (a : Option Addr) (cap : Nat) (ids L : List Int) (hL : Hid (Lies ss ids L)) (hI : Hid (Ids w a ids)) (hl : L.length ≤ 1048576) (at_ n : Nat) (hn : at_ + n ≤ L.length) :
    Calls Try.prog 16 #[.pointer (some ⟨p, 0, none⟩), .agg #[.slice a ids.length cap, .int .i64 (L.length : Int)], .int .i64 (at_ : Int), .int .i64 (n : Int)] w fun e w' => ∃ g c', e = .returned (.tuple #[.slice (some ⟨g, 0, none⟩) n c', .int .i64 0]) ∧ OwnB w' (w.heap.size + 1) (.slice (some ⟨g, 0, none⟩) n c') (part L at_ n) ∧ c' ≤ 9223372036854775807 ∧ Below w.heap.size w w' := by
  obtain ⟨i0, hi0, hi1, hi2, hi3⟩ := i5
  have h1 := fun W => fits_w a ids.length cap (L.length : Int) W
  rw [show fitB ids.length (L.length : Int) = true by have := hL.out.len; simp [fitB, this]; omega] at h1
  have hmk := make0 n (by omega)
  have B0 := Box.mk w (.slice a ids.length cap) (L.length : Int)
  have c1 : decide ((at_ : Int) < 0) = false := decide_eq_false (by omega)
  have c2 : decide ((L.length : Int) < (at_ : Int)) = false := decide_eq_false (by omega)
  have c2n : decide (L.length < at_) = false := decide_eq_false (by omega)
  have c3 : decide ((n : Int) < 0) = false := decide_eq_false (by omega)
  have c4 : decide ((L.length : Int) - (at_ : Int) < (n : Int)) = false := decide_eq_false (by omega)
  have k0 := B0.c0
  have k1 := B0.c1
  go_enter Try.func16, Try.ntmps16
  go_wp2_with fail
  refine (h1 _).mono ?_
  rintro e w2 ⟨rfl, b2⟩
  have B2 := B0.next b2
  clear b2 h1 k0 k1 B0
  have k0 := B2.c0
  have k1 := B2.c1
  have O2 : OwnB (w2.alloc (.cells (madeCells #[.int .u8 0] n) 5)) (w.heap.size + 1) (.slice (some ⟨w2.heap.size, 0, none⟩) 0 n) (part L at_ 0) := by
    unfold part
    rw [List.take_zero]
    refine ⟨rfl, .inr ⟨w2.heap.size, n, madeCells #[.int .u8 0] n, rfl, B2.size, heap_alloc_new w2 _, by simp, by unfold maxLen; omega, ?_, ?_⟩⟩
    · simp [madeCells]
    · simp [cellsOf]
  have B3 : Box w (w2.alloc (.cells (madeCells #[.int .u8 0] n) 5)) (.slice a ids.length cap) (L.length : Int) := B2.next (below_box _ _)
  generalize hw3 : w2.alloc (.cells (madeCells #[.int .u8 0] n) 5) = w3 at *
  have hmk2 := hmk w2
  rw [hw3] at hmk2
  clear hmk hw3
  go_wp2_with fail
  clear k0 k1 B2
  go_loopw [10] (fun s10 wr => ∃ (k g c : Nat), k ≤ n ∧ s10 = .slice (some ⟨g, 0, none⟩) k c ∧ c ≤ 9223372036854775807 ∧ OwnB wr (w.heap.size + 1) (.slice (some ⟨g, 0, none⟩) k c) (part L at_ k) ∧ Box w wr (.slice a ids.length cap) (L.length : Int)) (fun s10 _ => n - slenR s10)
  case atStart => exact ⟨0, w2.heap.size, n, by omega, rfl, by omega, O2, B3⟩
  case round =>
    clear O2 B3 hmk2
    obtain ⟨k, g, c, hk, rfl, hc, O, B⟩ := hrel
    by_cases hlt : k < n
    · have k0 := B.c0
      have k1 := B.c1
      obtain ⟨q, r, hqr, hr⟩ : ∃ q r, 64 * q + r = at_ + k ∧ r < 64 := ⟨(at_ + k) / 64, (at_ + k) % 64, by omega, by omega⟩
      have hq : q < ids.length := by rw [hL.out.len]; unfold need; omega
      obtain ⟨i, s, hz, hs, hh⟩ := hL.out.held _ (List.getElem_mem hq)
      have hzq : ids[q]? = some (i : Int) := by rw [List.getElem?_eq_getElem hq, hz]
      obtain ⟨b, off, ha, hcell⟩ := hI.out (by omega)
      rw [ha] at k0
      have HA : Hid _ := ha
      clear ha
      have ci := cell_below B.below (hcell q _ hzq)
      have t1 : ((at_ : Int) + (k : Int)) % 64 = (r : Int) := by omega
      have t2 : ((at_ : Int) + (k : Int)).tdiv 64 = (q : Int) := by rw [Int.tdiv_eq_ediv_of_nonneg (by omega)]; omega
      have t3 : ((at_ : Int) + (k : Int)) / 64 = (q : Int) := by omega
      have t4 : ((at_ : Int) + (k : Int)).tmod 64 = (r : Int) := by rw [Int.tmod_eq_emod_of_nonneg (by omega)]; omega
      clear hz hcell
      by_cases cmin : (64 : Int) - (r : Int) < (n : Int) - (k : Int)
      · obtain ⟨m, hm⟩ : ∃ m : Nat, 64 - r = m := ⟨_, rfl⟩
        have em : (64 : Int) - (r : Int) = (m : Int) := by omega
        rw [em] at cmin
        have q1 := read_yes (Ar.grow h B.below) i s hs hh r m (by omega)
        have hpl : (part s.bytes r m).length = m := part_length _ _ _ (by have := h.good.whole s (mem_of_some hs); omega)
        have hpp : part L at_ k ++ part s.bytes r m = part L at_ (k + m) := by
          rw [part_add, ← hqr, ← hL.out.part h.good.whole q (i : Int) hzq r m (by omega) (by omega)]
          unfold blkB
          rw [Int.toNat_natCast, hs]
          rfl
        have HPP : Hid _ := hpp
        clear hpp
        go_wp2_with fail
        refine q1.mono ?_
        rintro e w3 ⟨rfl, h3⟩
        clear q1
        have b3 : Below wr.heap.size wr w3 := by rw [h3]; exact below_box _ _
        have S3 : Src w3 (some ⟨wr.heap.size, 0, none⟩) (part s.bytes r m) := by rw [h3]; exact src_alloc wr _ 5
        have O3 : OwnB w3 (w.heap.size + 1) (.slice (some ⟨g, 0, none⟩) k c) (part L at_ k) := O.moved fun g h1 h2 => b3.block g h2
        have B3 := B.next b3
        clear h3 O
        obtain ⟨hO1, hO2⟩ := O3
        have hown : w3.ownsRow (w.heap.size + 1) 5 1 (.slice (some ⟨g, 0, none⟩) k c) k (cellsOf (part L at_ k)) := by
          have : (part L at_ k).length = k := part_length _ _ _ (by omega)
          rw [this] at hO1 hO2
          exact ⟨hO1, hO2⟩
        clear hO1 hO2
        go_wp2_with (at_builtin; refine wpList_append_own _ rfl _ _ 30 rfl (w.heap.size + 1) 5 i0 (.int .u8 0) 1 1 Try.underlying30 hi0 hi3 hi1 hi2 rfl (by decide) _ _ _ rfl hown ⟨wr.heap.size, 0, none⟩ m m (cellsOf (part s.bytes r m)) rfl ?d0 ?d1 ?d2 ?d3 ?d4 ?d5 ?_)
        case d0 => rw [cellsOf_length, hpl, Nat.mul_one]
        case d1 =>
          intro j v hv
          have hj := (List.getElem?_eq_some_iff.1 hv).1
          rw [cellsOf_length] at hj
          obtain ⟨ad', e1, h2⟩ := S3 (by omega)
          cases e1
          exact h2 j v hv
        case d2 => exact oneCell_bytes _
        case d3 => unfold maxLen; omega
        case d4 => omega
        case d5 => have := B3.size; omega
        intro v' w4 hown' hgrow hh'
        have B4 : Box w w4 (.slice a ids.length cap) (L.length : Int) := by
          have hg : w.heap.size + 1 ≤ g := by
            rcases hown.2 with ⟨e1, _⟩ | ⟨g', cp, cur, e1, e2, _⟩
            · cases e1
            · simp at e1; omega
          exact Below.grown B3 hgrow B3.size (fun q hq => by simp [Value.ownBlock] at hq; omega)
        obtain ⟨g', cp, rfl⟩ : ∃ g' cp, v' = .slice (some ⟨g', 0, none⟩) (k + m) cp := by
          rcases hown'.2 with ⟨e1, _⟩ | ⟨g', cp, cur, e1, _⟩
          · exact (hh' e1).elim
          · exact ⟨g', cp, e1⟩
        have hcp : cp ≤ 9223372036854775807 := by
          rcases hown'.2 with ⟨e1, _⟩ | ⟨g2, cp2, cur, e1, _, _, _, e5, _⟩
          · cases e1
          · simp at e1; unfold maxLen at e5; omega
        have O4 : OwnB w4 (w.heap.size + 1) (.slice (some ⟨g', 0, none⟩) (k + m) cp) (part L at_ (k + m)) := by
          have e1 : (part L at_ (k + m)).length = k + m := part_length _ _ _ (by omega)
          have e2 : cellsOf (part L at_ k) ++ cellsOf (part s.bytes r m) = cellsOf (part L at_ (k + m)) := by rw [← HPP.out]; simp [cellsOf]
          unfold OwnB
          rw [e1, ← e2]
          exact hown'
        clear hown hown' hgrow hh' S3 b3 B3 B
        go_wp2
        go_roundw
        case rel => exact ⟨k + m, g', cp, by omega, by go_num, hcp, O4, B4⟩
        case measure => simp [slenR]; omega
      · obtain ⟨m, hm⟩ : ∃ m : Nat, n - k = m := ⟨_, rfl⟩
        have em : (n : Int) - (k : Int) = (m : Int) := by omega
        rw [em] at cmin
        have q1 := read_yes (Ar.grow h B.below) i s hs hh r m (by omega)
        have hpl : (part s.bytes r m).length = m := part_length _ _ _ (by have := h.good.whole s (mem_of_some hs); omega)
        have hpp : part L at_ k ++ part s.bytes r m = part L at_ (k + m) := by
          rw [part_add, ← hqr, ← hL.out.part h.good.whole q (i : Int) hzq r m (by omega) (by omega)]
          unfold blkB
          rw [Int.toNat_natCast, hs]
          rfl
        have HPP : Hid _ := hpp
        clear hpp
        go_wp2_with fail
        refine q1.mono ?_
        rintro e w3 ⟨rfl, h3⟩
        clear q1
        have b3 : Below wr.heap.size wr w3 := by rw [h3]; exact below_box _ _
        have S3 : Src w3 (some ⟨wr.heap.size, 0, none⟩) (part s.bytes r m) := by rw [h3]; exact src_alloc wr _ 5
        have O3 : OwnB w3 (w.heap.size + 1) (.slice (some ⟨g, 0, none⟩) k c) (part L at_ k) := O.moved fun g h1 h2 => b3.block g h2
        have B3 := B.next b3
        clear h3 O
        obtain ⟨hO1, hO2⟩ := O3
        have hown : w3.ownsRow (w.heap.size + 1) 5 1 (.slice (some ⟨g, 0, none⟩) k c) k (cellsOf (part L at_ k)) := by
          have : (part L at_ k).length = k := part_length _ _ _ (by omega)
          rw [this] at hO1 hO2
          exact ⟨hO1, hO2⟩
        clear hO1 hO2
        go_wp2_with (at_builtin; refine wpList_append_own _ rfl _ _ 30 rfl (w.heap.size + 1) 5 i0 (.int .u8 0) 1 1 Try.underlying30 hi0 hi3 hi1 hi2 rfl (by decide) _ _ _ rfl hown ⟨wr.heap.size, 0, none⟩ m m (cellsOf (part s.bytes r m)) rfl ?d0 ?d1 ?d2 ?d3 ?d4 ?d5 ?_)
        case d0 => rw [cellsOf_length, hpl, Nat.mul_one]
        case d1 =>
          intro j v hv
          have hj := (List.getElem?_eq_some_iff.1 hv).1
          rw [cellsOf_length] at hj
          obtain ⟨ad', e1, h2⟩ := S3 (by omega)
          cases e1
          exact h2 j v hv
        case d2 => exact oneCell_bytes _
        case d3 => unfold maxLen; omega
        case d4 => omega
        case d5 => have := B3.size; omega
        intro v' w4 hown' hgrow hh'
        have B4 : Box w w4 (.slice a ids.length cap) (L.length : Int) := by
          have hg : w.heap.size + 1 ≤ g := by
            rcases hown.2 with ⟨e1, _⟩ | ⟨g', cp, cur, e1, e2, _⟩
            · cases e1
            · simp at e1; omega
          exact Below.grown B3 hgrow B3.size (fun q hq => by simp [Value.ownBlock] at hq; omega)
        obtain ⟨g', cp, rfl⟩ : ∃ g' cp, v' = .slice (some ⟨g', 0, none⟩) (k + m) cp := by
          rcases hown'.2 with ⟨e1, _⟩ | ⟨g', cp, cur, e1, _⟩
          · exact (hh' e1).elim
          · exact ⟨g', cp, e1⟩
        have hcp : cp ≤ 9223372036854775807 := by
          rcases hown'.2 with ⟨e1, _⟩ | ⟨g2, cp2, cur, e1, _, _, _, e5, _⟩
          · cases e1
          · simp at e1; unfold maxLen at e5; omega
        have O4 : OwnB w4 (w.heap.size + 1) (.slice (some ⟨g', 0, none⟩) (k + m) cp) (part L at_ (k + m)) := by
          have e1 : (part L at_ (k + m)).length = k + m := part_length _ _ _ (by omega)
          have e2 : cellsOf (part L at_ k) ++ cellsOf (part s.bytes r m) = cellsOf (part L at_ (k + m)) := by rw [← HPP.out]; simp [cellsOf]
          unfold OwnB
          rw [e1, ← e2]
          exact hown'
        clear hown hown' hgrow hh' S3 b3 B3 B
        go_wp2
        go_roundw
        case rel => exact ⟨k + m, g', cp, by omega, by go_num, hcp, O4, B4⟩
        case measure => simp [slenR]; omega
    · obtain rfl : k = n := by omega
      have b5 := B.below
      clear B
      go_wp2
      go_ret2
      exact ⟨g, c, rfl, O, hc, b5⟩

end Go.Proofs.Ytpjfhfbjdcgbjab
