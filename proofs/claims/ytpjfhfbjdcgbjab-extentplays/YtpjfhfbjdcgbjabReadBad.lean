/-
  Contract: extent.Read of what is beyond a content, or of one that can't be.
-/
import Derived.Test.YtpjfhfbjdcgbjabHead
namespace Go.Proofs.Ytpjfhfbjdcgbjab
open Go.RowKit
set_option linter.unusedVariables false
set_option linter.unusedSimpArgs false

set_option maxRecDepth 100000 in
theorem extRead_range (v : Value) (a : Option Addr) (l cap : Nat) (sz at_ n : Int) (w : World) (ha : -9223372036854775808 ≤ at_ ∧ at_ ≤ 9223372036854775807) (hn : -9223372036854775808 ≤ n ∧ n ≤ 9223372036854775807)
    (h : fitB l sz = false ∨ at_ < 0 ∨ sz < at_ ∨ n < 0 ∨ sz - at_ < n) :
    Calls Try.prog 16 #[v, .agg #[.slice a l cap, .int .i64 sz], .int .i64 at_, .int .i64 n] w fun e w' => e = .returned (.tuple #[.slice none 0 0, .int .i64 1]) ∧ Below w.heap.size w w' := by
  have h1 := fun W => fits_w a l cap sz W
  have B0 := Box.mk w (.slice a l cap) sz
  have k0 := B0.c0
  have k1 := B0.c1
  cases hf : fitB l sz with
  | false =>
    rw [hf] at h1
    go_enter Try.func16, Try.ntmps16
    go_wp2_with fail
    refine (h1 _).mono ?_
    rintro e w2 ⟨rfl, b2⟩
    have B2 := B0.next b2
    have b5 := B2.below
    clear h1 b2 B0 B2 k0 k1
    go_wp2
    go_ret2
    exact ⟨rfl, b5⟩
  | true =>
    rw [hf] at h1
    have hsz : 0 ≤ sz ∧ sz ≤ 1048576 := by simp [fitB] at hf; omega
    have h' : at_ < 0 ∨ sz < at_ ∨ n < 0 ∨ sz - at_ < n := by
      rcases h with h | h
      · rw [hf] at h; cases h
      · exact h
    clear h hf
    by_cases c1 : at_ < 0
    · go_enter Try.func16, Try.ntmps16
      go_wp2_with fail
      refine (h1 _).mono ?_
      rintro e w2 ⟨rfl, b2⟩
      have B2 := B0.next b2
      have b5 := B2.below
      clear h1 b2 B0 B2 k0 k1
      go_wp2
      go_ret2
      exact ⟨rfl, b5⟩
    by_cases c2 : sz < at_
    · go_enter Try.func16, Try.ntmps16
      go_wp2_with fail
      refine (h1 _).mono ?_
      rintro e w2 ⟨rfl, b2⟩
      have B2 := B0.next b2
      have b5 := B2.below
      clear k0 k1
      have k1 := B2.c1
      clear h1 b2 B0 B2
      go_wp2
      go_ret2
      exact ⟨rfl, b5⟩
    by_cases c3 : n < 0
    · go_enter Try.func16, Try.ntmps16
      go_wp2_with fail
      refine (h1 _).mono ?_
      rintro e w2 ⟨rfl, b2⟩
      have B2 := B0.next b2
      have b5 := B2.below
      clear k0 k1
      have k1 := B2.c1
      clear h1 b2 B0 B2
      go_wp2
      go_ret2
      exact ⟨rfl, b5⟩
    have c4 : sz - at_ < n := by omega
    go_enter Try.func16, Try.ntmps16
    go_wp2_with fail
    refine (h1 _).mono ?_
    rintro e w2 ⟨rfl, b2⟩
    have B2 := B0.next b2
    have b5 := B2.below
    clear k0 k1
    have k1 := B2.c1
    clear h1 b2 B0 B2
    go_wp2
    go_ret2
    exact ⟨rfl, b5⟩

/-- the cut [c:d] of a slice of bytes -/
theorem run_mid (w : World) (a : Option Addr) (n cap c d : Nat) (h1 : c ≤ d) (h2 : d ≤ cap) : (Instr.slice 30 (.slice a n cap) (some (.int .i64 (c : Int))) (some (.int .i64 (d : Int))) none).run Try.prog w = .ok (.slice (lowAt a cap c) (d - c) (cap - c)) w := by
  have hi := info5
  cases hq : Try.prog.info? 5 with
  | none => simp [hq] at hi
  | some i =>
    have hs : i.size = 1 := by simpa [hq] using hi
    have hb : (Instr.sliceBound (.int .i64 (c : Int)) d .sliceB).run Try.prog w = .ok c w := by
      have := run_sliceBound (P := Try.prog) w .i64 (c : Int) d .sliceB (by omega) (by omega)
      simpa using this
    have hb2 : (Instr.sliceBound (.int .i64 (d : Int)) cap .sliceAcap).run Try.prog w = .ok d w := by
      have := run_sliceBound (P := Try.prog) w .i64 (d : Int) cap .sliceAcap (by omega) (by omega)
      simpa using this
    simp [Instr.slice, run_underlying Try.underlying30, Instr.sliceBounds, sizeOf, typeInfo, hq, hs, hb, hb2, lowAt]

theorem OwnB.cell {w : World} {B g n c : Nat} {zs : List Int} (h : OwnB w B (.slice (some ⟨g, 0, none⟩) n c) zs) (m : Nat) (hm : m < n) : (∃ z, w.cell? ⟨g, m, none⟩ = some (.int .u8 z)) ∧ w.frozen? ⟨g, m, none⟩ = false := by
  rcases h.2 with ⟨e1, e2⟩ | ⟨g', cap, cur, e1, e2, e3, e4, e5, e6, e7⟩
  · cases e1
  · simp at e1
    obtain ⟨rfl, rfl, rfl⟩ := e1
    refine ⟨⟨zs[m], ?_⟩, by simp [World.frozen?, e3]⟩
    simp only [World.cell?, e3]
    have : (cur.toList.take (zs.length * 1))[m]? = (cellsOf zs)[m]? := by rw [e7]
    rw [Nat.mul_one, List.getElem?_take, if_pos hm] at this
    simpa [cellsOf, hm] using this

theorem OwnB.set {w : World} {B g n c : Nat} {zs : List Int} (h : OwnB w B (.slice (some ⟨g, 0, none⟩) n c) zs) (m : Nat) (hm : m < n) (z : Int) : OwnB (w.setCell ⟨g, m, none⟩ (.int .u8 z)) B (.slice (some ⟨g, 0, none⟩) n c) (zs.set m z) ∧ B ≤ g := by
  rcases h.2 with ⟨e1, e2⟩ | ⟨g', cap, cur, e1, e2, e3, e4, e5, e6, e7⟩
  · cases e1
  · simp at e1
    obtain ⟨rfl, rfl, rfl⟩ := e1
    refine ⟨⟨by simp [cellsOf], .inr ⟨g, c, cur.setIfInBounds m (.int .u8 z), by simp, e2, ?_, by simpa using e4, e5, by simpa using e6, ?_⟩⟩, e2⟩
    · rw [setCell_eq_setRow w g m _ _ _ _ e3, setRow_heap _ _ _ _ _ _ e3]
    · simp only [List.length_set, Nat.mul_one] at *
      rw [Array.toList_setIfInBounds, List.take_set, e7]
      simp [cellsOf, List.map_set]

end Go.Proofs.Ytpjfhfbjdcgbjab
