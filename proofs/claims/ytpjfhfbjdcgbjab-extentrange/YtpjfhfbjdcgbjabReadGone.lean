/-
  Contracts: extent.Read of nothing; of a block that is not held.
-/
import Derived.Test.YtpjfhfbjdcgbjabReadBad
namespace Go.Proofs.Ytpjfhfbjdcgbjab
open Go.RowKit
set_option linter.unusedVariables false
set_option linter.unusedSimpArgs false

set_option maxRecDepth 100000 in
set_option maxHeartbeats 2000000 in
theorem read_zero (v : Value) (a : Option Addr) (l cap sz at_ : Nat) (w : World) (hf : fitB l (sz : Int) = true) (ha : at_ ≤ sz) :
    Calls Try.prog 16 #[v, .agg #[.slice a l cap, .int .i64 (sz : Int)], .int .i64 (at_ : Int), .int .i64 0] w fun e w' => ∃ g, e = .returned (.tuple #[.slice (some ⟨g, 0, none⟩) 0 0, .int .i64 0]) ∧ Below w.heap.size w w' := by
  have h1 := fun W => fits_w a l cap (sz : Int) W
  rw [hf] at h1
  have hsz : sz ≤ 1048576 := by simp [fitB] at hf; omega
  have B0 := Box.mk w (.slice a l cap) (sz : Int)
  have k0 := B0.c0
  have k1 := B0.c1
  have c1 : decide ((at_ : Int) < 0) = false := decide_eq_false (by omega)
  have c2 : decide ((sz : Int) < (at_ : Int)) = false := decide_eq_false (by omega)
  have c2n : decide (sz < at_) = false := decide_eq_false (by omega)
  have c4 : decide ((sz : Int) - (at_ : Int) < 0) = false := decide_eq_false (by omega)
  clear hf
  go_enter Try.func16, Try.ntmps16
  go_wp2_with fail
  refine (h1 _).mono ?_
  rintro e w2 ⟨rfl, b2⟩
  have B2 := B0.next b2
  have b5 := B2.below
  clear k0 k1
  have k0 := B2.c0
  have k1 := B2.c1
  have hmk2 : (Instr.makeSlice 30 (.int .i64 0) (.int .i64 0)).run Try.prog w2 = .ok (.slice (some ⟨w2.heap.size, 0, none⟩) 0 0) (w2.alloc (.cells (madeCells #[.int .u8 0] 0) 5)) := make0 0 (by omega) w2
  clear h1 b2 B0 B2
  generalize hC : madeCells #[Value.int .u8 0] 0 = C at *
  go_wp2_with fail
  refine wp_loop_rounds 1 ?_
  rw [rounds_succ]
  go_wp2
  go_ret2
  exact ⟨_, rfl, b5.alloc b5.size _⟩

set_option maxRecDepth 100000 in
set_option maxHeartbeats 4000000 in
theorem read_gone {w : World} {p S F : Nat} {ss : List Slot} {fr : List Nat} (h : Ar w p S F ss fr) (a : Option Addr) (cap sz at_ n : Nat) (ids : List Int) (hf : fitB ids.length (sz : Int) = true) (hI : Ids w a ids) (ha : at_ + n ≤ sz) (hn : 0 < n) (hg : ∀ z, holdsOf ss z = 0) :
    Calls Try.prog 16 #[.pointer (some ⟨p, 0, none⟩), .agg #[.slice a ids.length cap, .int .i64 (sz : Int)], .int .i64 (at_ : Int), .int .i64 (n : Int)] w fun e w' => e = .returned (.tuple #[.slice none 0 0, .int .i64 4]) ∧ Below w.heap.size w w' := by
  have h1 := fun W => fits_w a ids.length cap (sz : Int) W
  rw [hf] at h1
  have hsz : sz ≤ 1048576 ∧ Hid (ids.length = need sz) := by simp [fitB] at hf; exact ⟨by omega, hf.2⟩
  obtain ⟨hsz, hlen⟩ := hsz
  have hmk := make0 n (by omega)
  have B0 := Box.mk w (.slice a ids.length cap) (sz : Int)
  have k0 := B0.c0
  have k1 := B0.c1
  have c1 : decide ((at_ : Int) < 0) = false := decide_eq_false (by omega)
  have c2 : decide ((sz : Int) < (at_ : Int)) = false := decide_eq_false (by omega)
  have c2n : decide (sz < at_) = false := decide_eq_false (by omega)
  have c3 : decide ((n : Int) < 0) = false := decide_eq_false (by omega)
  have c4 : decide ((sz : Int) - (at_ : Int) < (n : Int)) = false := decide_eq_false (by omega)
  have hq : at_ / 64 < ids.length := by rw [hlen.out]; unfold need; omega
  obtain ⟨b, off, rfl, hcell⟩ := hI (by omega)
  obtain ⟨z, hz⟩ : ∃ z, w.cell? ⟨b, off + at_ / 64, none⟩ = some (.int .i64 z) := ⟨_, hcell (at_ / 64) _ (List.getElem?_eq_getElem hq)⟩
  obtain ⟨q, hqq⟩ : ∃ q, at_ / 64 = q := ⟨_, rfl⟩
  obtain ⟨r, hrr⟩ : ∃ r, at_ % 64 = r := ⟨_, rfl⟩
  have t1 : (at_ : Int) % 64 = (r : Int) := by omega
  have t4 : (at_ : Int).tmod 64 = (r : Int) := by rw [Int.tmod_eq_emod_of_nonneg (by omega)]; omega
  have t2 : (at_ : Int).tdiv 64 = (q : Int) := by rw [Int.tdiv_eq_ediv_of_nonneg (by omega)]; omega
  have t3 : (at_ : Int) / 64 = (q : Int) := by omega
  have hql : q < ids.length := by omega
  have hr64 : r < 64 := by omega
  rw [hqq] at hz
  have hgz : Gone ss z := gone_of ss z (hg z)
  clear hcell hI hf hq hqq hrr
  go_enter Try.func16, Try.ntmps16
  go_wp2_with fail
  refine (h1 _).mono ?_
  rintro e w2 ⟨rfl, b2⟩
  have B2 := B0.next b2
  have b5 := B2.below
  clear k0 k1
  have kz := cell_below (b5.alloc b5.size (.cells (madeCells #[.int .u8 0] n) 5)) hz
  have B3 := B2.next (below_box w2 (.cells (madeCells #[.int .u8 0] n) 5))
  have k0 := B2.c0
  have k1 := B2.c1
  have m0 := B3.c0
  have m1 := B3.c1
  have A3 := h.grow B3.below
  have b6 := B3.below
  have hmk2 := hmk w2
  clear h1 b2 B0 B2 B3 hmk hz
  generalize w2.alloc (.cells (madeCells #[.int .u8 0] n) 5) = w3 at *
  go_wp2_with fail
  refine wp_loop_rounds 1 ?_
  rw [rounds_succ]
  by_cases cm : (64 : Int) - (r : Int) < (n : Int)
  · have qq := read_no A3 z (r : Int) ((64 : Int) - (r : Int)) hgz
    go_wp2_with fail
    refine qq.mono ?_
    rintro e w' ⟨rfl, rfl⟩
    go_wp2
    go_ret2
    exact ⟨rfl, b6⟩
  · have qq := read_no A3 z (r : Int) (n : Int) hgz
    go_wp2_with fail
    refine qq.mono ?_
    rintro e w' ⟨rfl, rfl⟩
    go_wp2
    go_ret2
    exact ⟨rfl, b6⟩

end Go.Proofs.Ytpjfhfbjdcgbjab
