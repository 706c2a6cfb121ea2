/-
  Contract: extent.canAppend.
-/
import Derived.Test.YtpjfhfbjdcgbjabExt0
namespace Go.Proofs.Ytpjfhfbjdcgbjab
open Go.RowKit
set_option linter.unusedVariables false
set_option linter.unusedSimpArgs false

/-- the world behind a parameter's box, and what grew since -/
def Box (w W : World) (v : Value) (sz : Int) : Prop := Below (w.heap.size + 1) (w.alloc (.cells #[v, .int .i64 sz] 35)) W

theorem Box.mk (w : World) (v : Value) (sz : Int) : Box w (w.alloc (.cells #[v, .int .i64 sz] 35)) v sz := Below.refl _ _
theorem Box.below {w W : World} {v : Value} {sz : Int} (h : Box w W v sz) : Below w.heap.size w W := (below_box w _).trans (h.mono (by omega))
theorem Box.size {w W : World} {v : Value} {sz : Int} (h : Box w W v sz) : w.heap.size + 1 ≤ W.heap.size := by have := Below.size h; simpa using this
theorem Box.c0 {w W : World} {v : Value} {sz : Int} (h : Box w W v sz) : W.cell? ⟨w.heap.size, 0, none⟩ = some v := by
  rw [World.cell?_of_block (h.block _ (by simp)), World.cell?_alloc_new]; rfl
theorem Box.c1 {w W : World} {v : Value} {sz : Int} (h : Box w W v sz) : W.cell? ⟨w.heap.size, 1, none⟩ = some (.int .i64 sz) := by
  rw [World.cell?_of_block (h.block _ (by simp)), World.cell?_alloc_new]; rfl
theorem Box.next {w W W' : World} {v : Value} {sz : Int} (h : Box w W v sz) (hb : Below W.heap.size W W') : Box w W' v sz := Below.trans h (hb.mono h.size)
theorem Box.drewN {w W : World} {v : Value} {sz : Int} (h : Box w W v sz) (n : Nat) : Box w (W.drewN n) v sz := below_drewN h n

def canCode (ss : List Slot) (fr : List Nat) (ids : List Int) (sz n : Nat) : Int :=
  if 1048576 < sz + n then 2
  else if (fr.length : Int) < (need (sz + n) : Int) - (ids.length : Int) + (if isShared ss ids sz then 1 else 0) then 3
  else if isOpen sz = true ∧ lastHolds ss ids = 0 then 4 else 0

theorem can_bad (v : Value) (a : Option Addr) (l cap : Nat) (sz n : Int) (w : World) (hf : fitB l sz = false) :
    Calls Try.prog 18 #[v, .agg #[.slice a l cap, .int .i64 sz], .int .i64 n] w fun e w' => e = .returned (.int .i64 1) ∧ Below w.heap.size w w' := by
  have h1 := fun W => fits_w a l cap sz W
  rw [hf] at h1
  clear hf
  go_enter Try.func18, Try.ntmps18
  go_wp2_with fail
  refine (h1 _).mono ?_
  rintro e w1 ⟨rfl, b1⟩
  have B1 := (Box.mk w (.slice a l cap) sz).next b1
  clear b1
  go_wp2
  go_ret
  exact ⟨rfl, B1.below⟩

section
variable {w : World} {p S F : Nat} {ss : List Slot} {fr : List Nat}

theorem can_long (h : Ar w p S F ss fr) (a : Option Addr) (cap : Nat) (ids : List Int) (sz n : Nat) (hs : sz ≤ 1048576) (hn : ids.length = need sz) (hbig : n ≤ 1099511627776) (hl : 1048576 < sz + n) :
    Calls Try.prog 18 #[.pointer (some ⟨p, 0, none⟩), .agg #[.slice a ids.length cap, .int .i64 (sz : Int)], .int .i64 (n : Int)] w fun e w' => e = .returned (.int .i64 2) ∧ Below w.heap.size w w' := by
  have h1 := fun W => fits_w a ids.length cap sz W
  rw [show fitB ids.length sz = true by simp [fitB, hn]; omega] at h1
  have hl' : (1048576 : Int) - (sz : Int) < (n : Int) := by omega
  generalize ids.length = l at *
  clear hn
  go_enter Try.func18, Try.ntmps18
  go_wp2_with fail
  refine (h1 _).mono ?_
  rintro e w1 ⟨rfl, b1⟩
  have B1 := (Box.mk w (.slice a l cap) sz).next b1
  have k1 := B1.c1
  clear b1 h1
  go_wp2
  go_ret
  exact ⟨rfl, B1.below⟩

set_option maxHeartbeats 1000000 in
theorem can_full_false (h : Ar w p S F ss fr) (a : Option Addr) (cap : Nat) (ids : List Int) (sz n : Nat) (hs : sz ≤ 1048576) (hn : ids.length = need sz) (hI : Ids w a ids) (hl : sz + n ≤ 1048576) (hsh : isShared ss ids sz = false) (hf : (fr.length : Int) < (need (sz + n) : Int) - (ids.length : Int)) :
    Calls Try.prog 18 #[.pointer (some ⟨p, 0, none⟩), .agg #[.slice a ids.length cap, .int .i64 (sz : Int)], .int .i64 (n : Int)] w fun e w' => e = .returned (.int .i64 3) ∧ Below w.heap.size w w' := by
  have h1 := fun W => fits_w a ids.length cap sz W
  rw [show fitB ids.length sz = true by simp [fitB, hn]; omega] at h1
  have hl' : ¬ (1048576 : Int) - (sz : Int) < (n : Int) := by omega
  have h2 : ∀ W, Calls Try.prog 29 #[.int .i64 ((sz : Int) + (n : Int))] W fun e w' => e = .returned (.int .i64 (need (sz + n) : Int)) ∧ w' = W := fun W => by
    rw [show (sz : Int) + (n : Int) = ((sz + n : Nat) : Int) by omega]; exact blocksFor_w (sz + n) W (by omega)
  have hne : need (sz + n) ≤ 16384 := by unfold need; omega
  have hid : ids.length ≤ 16384 := by rw [hn]; unfold need; omega
  have Hn : Hid _ := hn
  have Hsh : Hid _ := hsh
  clear hn hsh
  go_enter Try.func18, Try.ntmps18
  go_wp2_with fail
  refine (h1 _).mono ?_
  rintro e w1 ⟨rfl, b1⟩
  have B1 := (Box.mk w (.slice a ids.length cap) sz).next b1
  have k0 := B1.c0
  have k1 := B1.c1
  clear b1 h1
  go_wp2_with fail
  go_quiet ((go_at_call 29; exact Calls.quiet_of_same (h2 _)))
  have B2 := B1.drewN nq
  have k0 := B2.c0
  have k1 := B2.c1
  have h3 := shared_w (h.grow B2.below) a cap ids sz hs Hn.out (hI.grow B2.below)
  rw [Hsh.out] at h3
  clear h2 B1
  generalize w1.drewN nq = w2 at *
  go_wp2_with fail
  refine h3.mono ?_
  rintro e w3 ⟨rfl, b3⟩
  have B3 := B2.next b3
  have k0 := B3.c0
  have k1 := B3.c1
  have h4 := free_w (h.grow B3.below)
  clear h3 B2 b3
  have hx : (fr.length : Int) < (need (sz + n) : Int) - (ids.length : Int) := hf
  generalize need (sz + n) = nn at *
  generalize ids.length = l at *
  go_wp2_with fail
  refine h4.mono ?_
  rintro e w' ⟨rfl, rfl⟩
  go_wp2
  go_ret
  exact ⟨rfl, B3.below⟩

set_option maxHeartbeats 1000000 in
theorem can_shut (h : Ar w p S F ss fr) (a : Option Addr) (cap : Nat) (ids : List Int) (sz n : Nat) (hs : sz ≤ 1048576) (hn : ids.length = need sz) (hI : Ids w a ids) (hl : sz + n ≤ 1048576) (hsh : isShared ss ids sz = false) (hf : ¬ (fr.length : Int) < (need (sz + n) : Int) - (ids.length : Int)) (ho : isOpen sz = false) :
    Calls Try.prog 18 #[.pointer (some ⟨p, 0, none⟩), .agg #[.slice a ids.length cap, .int .i64 (sz : Int)], .int .i64 (n : Int)] w fun e w' => e = .returned (.int .i64 0) ∧ Below w.heap.size w w' := by
  have h1 := fun W => fits_w a ids.length cap sz W
  rw [show fitB ids.length sz = true by simp [fitB, hn]; omega] at h1
  have hl' : ¬ (1048576 : Int) - (sz : Int) < (n : Int) := by omega
  have h2 : ∀ W, Calls Try.prog 29 #[.int .i64 ((sz : Int) + (n : Int))] W fun e w' => e = .returned (.int .i64 (need (sz + n) : Int)) ∧ w' = W := fun W => by
    rw [show (sz : Int) + (n : Int) = ((sz + n : Nat) : Int) by omega]; exact blocksFor_w (sz + n) W (by omega)
  have hne : need (sz + n) ≤ 16384 := by unfold need; omega
  have hid : ids.length ≤ 16384 := by rw [hn]; unfold need; omega
  have Hn : Hid _ := hn
  have Hsh : Hid _ := hsh
  clear hn hsh
  have Ho : Hid _ := ho
  clear ho
  go_enter Try.func18, Try.ntmps18
  go_wp2_with fail
  refine (h1 _).mono ?_
  rintro e w1 ⟨rfl, b1⟩
  have B1 := (Box.mk w (.slice a ids.length cap) sz).next b1
  have k0 := B1.c0
  have k1 := B1.c1
  clear b1 h1
  go_wp2_with fail
  go_quiet ((go_at_call 29; exact Calls.quiet_of_same (h2 _)))
  have B2 := B1.drewN nq
  have k0 := B2.c0
  have k1 := B2.c1
  have h3 := shared_w (h.grow B2.below) a cap ids sz hs Hn.out (hI.grow B2.below)
  rw [Hsh.out] at h3
  clear h2 B1
  generalize w1.drewN nq = w2 at *
  go_wp2_with fail
  refine h3.mono ?_
  rintro e w3 ⟨rfl, b3⟩
  have B3 := B2.next b3
  have k0 := B3.c0
  have k1 := B3.c1
  have h4 := free_w (h.grow B3.below)
  clear h3 B2 b3
  have h5 := fun W => open_w a ids.length cap sz W (by omega)
  rw [Ho.out] at h5
  generalize need (sz + n) = nn at *
  go_wp2_with fail
  refine h4.mono ?_
  rintro e w' ⟨rfl, rfl⟩
  go_wp2_with fail
  refine (h5 _).mono ?_
  rintro e w4 ⟨rfl, b4⟩
  have B4 := B3.next b4
  clear h4 h5 b4
  go_wp2
  go_ret
  exact ⟨rfl, B4.below⟩

set_option maxHeartbeats 1000000 in
theorem can_open_false_gone (h : Ar w p S F ss fr) (a : Option Addr) (cap : Nat) (ids : List Int) (sz n : Nat) (hs : sz ≤ 1048576) (hn : ids.length = need sz) (hI : Ids w a ids) (hl : sz + n ≤ 1048576) (hsh : isShared ss ids sz = false) (hf : ¬ (fr.length : Int) < (need (sz + n) : Int) - (ids.length : Int)) (ho : isOpen sz = true) (hg : lastHolds ss ids = 0) :
    Calls Try.prog 18 #[.pointer (some ⟨p, 0, none⟩), .agg #[.slice a ids.length cap, .int .i64 (sz : Int)], .int .i64 (n : Int)] w fun e w' => e = .returned (.int .i64 4) ∧ Below w.heap.size w w' := by
  have h1 := fun W => fits_w a ids.length cap sz W
  rw [show fitB ids.length sz = true by simp [fitB, hn]; omega] at h1
  have hl' : ¬ (1048576 : Int) - (sz : Int) < (n : Int) := by omega
  have h2 : ∀ W, Calls Try.prog 29 #[.int .i64 ((sz : Int) + (n : Int))] W fun e w' => e = .returned (.int .i64 (need (sz + n) : Int)) ∧ w' = W := fun W => by
    rw [show (sz : Int) + (n : Int) = ((sz + n : Nat) : Int) by omega]; exact blocksFor_w (sz + n) W (by omega)
  have hne : need (sz + n) ≤ 16384 := by unfold need; omega
  have hid : ids.length ≤ 16384 := by rw [hn]; unfold need; omega
  have Hn : Hid _ := hn
  have Hsh : Hid _ := hsh
  clear hn hsh
  have Ho : Hid _ := ho
  clear ho
  have Hg : Hid _ := hg
  clear hg
  go_enter Try.func18, Try.ntmps18
  go_wp2_with fail
  refine (h1 _).mono ?_
  rintro e w1 ⟨rfl, b1⟩
  have B1 := (Box.mk w (.slice a ids.length cap) sz).next b1
  have k0 := B1.c0
  have k1 := B1.c1
  clear b1 h1
  go_wp2_with fail
  go_quiet ((go_at_call 29; exact Calls.quiet_of_same (h2 _)))
  have B2 := B1.drewN nq
  have k0 := B2.c0
  have k1 := B2.c1
  have h3 := shared_w (h.grow B2.below) a cap ids sz hs Hn.out (hI.grow B2.below)
  rw [Hsh.out] at h3
  clear h2 B1
  generalize w1.drewN nq = w2 at *
  go_wp2_with fail
  refine h3.mono ?_
  rintro e w3 ⟨rfl, b3⟩
  have B3 := B2.next b3
  have k0 := B3.c0
  have k1 := B3.c1
  have h4 := free_w (h.grow B3.below)
  clear h3 B2 b3
  obtain ⟨m, hm⟩ : ∃ m, ids.length = m + 1 := ⟨ids.length - 1, by have ho := Ho.out; have hn := Hn.out; simp only [isOpen, decide_eq_true_eq] at ho; unfold need at hn; omega⟩
  have h5 := fun W => open_w a ids.length cap sz W (by omega)
  rw [Ho.out] at h5
  obtain ⟨b, off, rfl, hc⟩ := hI.last m hm
  have hbl := World.block_lt_of_cell? w _ hc
  rw [hm] at h5 hf hid k0
  have hz : ((lastHolds ss ids : Int) == 0) = true := by simp [Hg.out]
  unfold lastHolds at hz
  generalize ids.getLastD 0 = z at *
  generalize need (sz + n) = nn at *
  go_wp2_with fail
  refine h4.mono ?_
  rintro e w' ⟨rfl, rfl⟩
  go_wp2_with fail
  refine (h5 _).mono ?_
  rintro e w4 ⟨rfl, b4⟩
  have B4 := B3.next b4
  have k0 := B4.c0
  have k1 := B4.c1
  have hc4 : w4.cell? ⟨b, off + m, none⟩ = some (.int .i64 z) := by rw [World.cell?_of_block (B4.below.block _ hbl)]; exact hc
  have h6 := holds_any (h.grow B4.below) z
  clear h4 h5 b4 B3 hc
  rw [hm] at k0
  go_wp2_with fail
  refine h6.mono ?_
  rintro e w' ⟨rfl, rfl⟩
  go_wp2
  go_ret
  exact ⟨rfl, B4.below⟩

set_option maxHeartbeats 1000000 in
theorem can_open_false_held (h : Ar w p S F ss fr) (a : Option Addr) (cap : Nat) (ids : List Int) (sz n : Nat) (hs : sz ≤ 1048576) (hn : ids.length = need sz) (hI : Ids w a ids) (hl : sz + n ≤ 1048576) (hsh : isShared ss ids sz = false) (hf : ¬ (fr.length : Int) < (need (sz + n) : Int) - (ids.length : Int)) (ho : isOpen sz = true) (hg : lastHolds ss ids ≠ 0) :
    Calls Try.prog 18 #[.pointer (some ⟨p, 0, none⟩), .agg #[.slice a ids.length cap, .int .i64 (sz : Int)], .int .i64 (n : Int)] w fun e w' => e = .returned (.int .i64 0) ∧ Below w.heap.size w w' := by
  have h1 := fun W => fits_w a ids.length cap sz W
  rw [show fitB ids.length sz = true by simp [fitB, hn]; omega] at h1
  have hl' : ¬ (1048576 : Int) - (sz : Int) < (n : Int) := by omega
  have h2 : ∀ W, Calls Try.prog 29 #[.int .i64 ((sz : Int) + (n : Int))] W fun e w' => e = .returned (.int .i64 (need (sz + n) : Int)) ∧ w' = W := fun W => by
    rw [show (sz : Int) + (n : Int) = ((sz + n : Nat) : Int) by omega]; exact blocksFor_w (sz + n) W (by omega)
  have hne : need (sz + n) ≤ 16384 := by unfold need; omega
  have hid : ids.length ≤ 16384 := by rw [hn]; unfold need; omega
  have Hn : Hid _ := hn
  have Hsh : Hid _ := hsh
  clear hn hsh
  have Ho : Hid _ := ho
  clear ho
  have Hg : Hid _ := hg
  clear hg
  go_enter Try.func18, Try.ntmps18
  go_wp2_with fail
  refine (h1 _).mono ?_
  rintro e w1 ⟨rfl, b1⟩
  have B1 := (Box.mk w (.slice a ids.length cap) sz).next b1
  have k0 := B1.c0
  have k1 := B1.c1
  clear b1 h1
  go_wp2_with fail
  go_quiet ((go_at_call 29; exact Calls.quiet_of_same (h2 _)))
  have B2 := B1.drewN nq
  have k0 := B2.c0
  have k1 := B2.c1
  have h3 := shared_w (h.grow B2.below) a cap ids sz hs Hn.out (hI.grow B2.below)
  rw [Hsh.out] at h3
  clear h2 B1
  generalize w1.drewN nq = w2 at *
  go_wp2_with fail
  refine h3.mono ?_
  rintro e w3 ⟨rfl, b3⟩
  have B3 := B2.next b3
  have k0 := B3.c0
  have k1 := B3.c1
  have h4 := free_w (h.grow B3.below)
  clear h3 B2 b3
  obtain ⟨m, hm⟩ : ∃ m, ids.length = m + 1 := ⟨ids.length - 1, by have ho := Ho.out; have hn := Hn.out; simp only [isOpen, decide_eq_true_eq] at ho; unfold need at hn; omega⟩
  have h5 := fun W => open_w a ids.length cap sz W (by omega)
  rw [Ho.out] at h5
  obtain ⟨b, off, rfl, hc⟩ := hI.last m hm
  have hbl := World.block_lt_of_cell? w _ hc
  rw [hm] at h5 hf hid k0
  have hz : ((lastHolds ss ids : Int) == 0) = false := by simp; exact Hg.out
  unfold lastHolds at hz
  generalize ids.getLastD 0 = z at *
  generalize need (sz + n) = nn at *
  go_wp2_with fail
  refine h4.mono ?_
  rintro e w' ⟨rfl, rfl⟩
  go_wp2_with fail
  refine (h5 _).mono ?_
  rintro e w4 ⟨rfl, b4⟩
  have B4 := B3.next b4
  have k0 := B4.c0
  have k1 := B4.c1
  have hc4 : w4.cell? ⟨b, off + m, none⟩ = some (.int .i64 z) := by rw [World.cell?_of_block (B4.below.block _ hbl)]; exact hc
  have h6 := holds_any (h.grow B4.below) z
  clear h4 h5 b4 B3 hc
  rw [hm] at k0
  go_wp2_with fail
  refine h6.mono ?_
  rintro e w' ⟨rfl, rfl⟩
  go_wp2
  go_ret
  exact ⟨rfl, B4.below⟩

set_option maxHeartbeats 1000000 in
theorem can_full_true (h : Ar w p S F ss fr) (a : Option Addr) (cap : Nat) (ids : List Int) (sz n : Nat) (hs : sz ≤ 1048576) (hn : ids.length = need sz) (hI : Ids w a ids) (hl : sz + n ≤ 1048576) (hsh : isShared ss ids sz = true) (hf : (fr.length : Int) < (need (sz + n) : Int) - (ids.length : Int) + 1) :
    Calls Try.prog 18 #[.pointer (some ⟨p, 0, none⟩), .agg #[.slice a ids.length cap, .int .i64 (sz : Int)], .int .i64 (n : Int)] w fun e w' => e = .returned (.int .i64 3) ∧ Below w.heap.size w w' := by
  have h1 := fun W => fits_w a ids.length cap sz W
  rw [show fitB ids.length sz = true by simp [fitB, hn]; omega] at h1
  have hl' : ¬ (1048576 : Int) - (sz : Int) < (n : Int) := by omega
  have h2 : ∀ W, Calls Try.prog 29 #[.int .i64 ((sz : Int) + (n : Int))] W fun e w' => e = .returned (.int .i64 (need (sz + n) : Int)) ∧ w' = W := fun W => by
    rw [show (sz : Int) + (n : Int) = ((sz + n : Nat) : Int) by omega]; exact blocksFor_w (sz + n) W (by omega)
  have hne : need (sz + n) ≤ 16384 := by unfold need; omega
  have hid : ids.length ≤ 16384 := by rw [hn]; unfold need; omega
  have Hn : Hid _ := hn
  have Hsh : Hid _ := hsh
  clear hn hsh
  go_enter Try.func18, Try.ntmps18
  go_wp2_with fail
  refine (h1 _).mono ?_
  rintro e w1 ⟨rfl, b1⟩
  have B1 := (Box.mk w (.slice a ids.length cap) sz).next b1
  have k0 := B1.c0
  have k1 := B1.c1
  clear b1 h1
  go_wp2_with fail
  go_quiet ((go_at_call 29; exact Calls.quiet_of_same (h2 _)))
  have B2 := B1.drewN nq
  have k0 := B2.c0
  have k1 := B2.c1
  have h3 := shared_w (h.grow B2.below) a cap ids sz hs Hn.out (hI.grow B2.below)
  rw [Hsh.out] at h3
  clear h2 B1
  generalize w1.drewN nq = w2 at *
  go_wp2_with fail
  refine h3.mono ?_
  rintro e w3 ⟨rfl, b3⟩
  have B3 := B2.next b3
  have k0 := B3.c0
  have k1 := B3.c1
  have h4 := free_w (h.grow B3.below)
  clear h3 B2 b3
  have hx : (fr.length : Int) < (need (sz + n) : Int) - (ids.length : Int) + 1 := hf
  generalize need (sz + n) = nn at *
  generalize ids.length = l at *
  go_wp2_with fail
  refine h4.mono ?_
  rintro e w' ⟨rfl, rfl⟩
  go_wp2
  go_ret
  exact ⟨rfl, B3.below⟩

set_option maxHeartbeats 1000000 in
theorem can_open_true_held (h : Ar w p S F ss fr) (a : Option Addr) (cap : Nat) (ids : List Int) (sz n : Nat) (hs : sz ≤ 1048576) (hn : ids.length = need sz) (hI : Ids w a ids) (hl : sz + n ≤ 1048576) (hsh : isShared ss ids sz = true) (hf : ¬ (fr.length : Int) < (need (sz + n) : Int) - (ids.length : Int) + 1) (ho : isOpen sz = true) (hg : lastHolds ss ids ≠ 0) :
    Calls Try.prog 18 #[.pointer (some ⟨p, 0, none⟩), .agg #[.slice a ids.length cap, .int .i64 (sz : Int)], .int .i64 (n : Int)] w fun e w' => e = .returned (.int .i64 0) ∧ Below w.heap.size w w' := by
  have h1 := fun W => fits_w a ids.length cap sz W
  rw [show fitB ids.length sz = true by simp [fitB, hn]; omega] at h1
  have hl' : ¬ (1048576 : Int) - (sz : Int) < (n : Int) := by omega
  have h2 : ∀ W, Calls Try.prog 29 #[.int .i64 ((sz : Int) + (n : Int))] W fun e w' => e = .returned (.int .i64 (need (sz + n) : Int)) ∧ w' = W := fun W => by
    rw [show (sz : Int) + (n : Int) = ((sz + n : Nat) : Int) by omega]; exact blocksFor_w (sz + n) W (by omega)
  have hne : need (sz + n) ≤ 16384 := by unfold need; omega
  have hid : ids.length ≤ 16384 := by rw [hn]; unfold need; omega
  have Hn : Hid _ := hn
  have Hsh : Hid _ := hsh
  clear hn hsh
  have Ho : Hid _ := ho
  clear ho
  have Hg : Hid _ := hg
  clear hg
  go_enter Try.func18, Try.ntmps18
  go_wp2_with fail
  refine (h1 _).mono ?_
  rintro e w1 ⟨rfl, b1⟩
  have B1 := (Box.mk w (.slice a ids.length cap) sz).next b1
  have k0 := B1.c0
  have k1 := B1.c1
  clear b1 h1
  go_wp2_with fail
  go_quiet ((go_at_call 29; exact Calls.quiet_of_same (h2 _)))
  have B2 := B1.drewN nq
  have k0 := B2.c0
  have k1 := B2.c1
  have h3 := shared_w (h.grow B2.below) a cap ids sz hs Hn.out (hI.grow B2.below)
  rw [Hsh.out] at h3
  clear h2 B1
  generalize w1.drewN nq = w2 at *
  go_wp2_with fail
  refine h3.mono ?_
  rintro e w3 ⟨rfl, b3⟩
  have B3 := B2.next b3
  have k0 := B3.c0
  have k1 := B3.c1
  have h4 := free_w (h.grow B3.below)
  clear h3 B2 b3
  obtain ⟨m, hm⟩ : ∃ m, ids.length = m + 1 := ⟨ids.length - 1, by have ho := Ho.out; have hn := Hn.out; simp only [isOpen, decide_eq_true_eq] at ho; unfold need at hn; omega⟩
  have h5 := fun W => open_w a ids.length cap sz W (by omega)
  rw [Ho.out] at h5
  obtain ⟨b, off, rfl, hc⟩ := hI.last m hm
  have hbl := World.block_lt_of_cell? w _ hc
  rw [hm] at h5 hf hid k0
  have hz : ((lastHolds ss ids : Int) == 0) = false := by simp; exact Hg.out
  unfold lastHolds at hz
  generalize ids.getLastD 0 = z at *
  generalize need (sz + n) = nn at *
  go_wp2_with fail
  refine h4.mono ?_
  rintro e w' ⟨rfl, rfl⟩
  go_wp2_with fail
  refine (h5 _).mono ?_
  rintro e w4 ⟨rfl, b4⟩
  have B4 := B3.next b4
  have k0 := B4.c0
  have k1 := B4.c1
  have hc4 : w4.cell? ⟨b, off + m, none⟩ = some (.int .i64 z) := by rw [World.cell?_of_block (B4.below.block _ hbl)]; exact hc
  have h6 := holds_any (h.grow B4.below) z
  clear h4 h5 b4 B3 hc
  rw [hm] at k0
  go_wp2_with fail
  refine h6.mono ?_
  rintro e w' ⟨rfl, rfl⟩
  go_wp2
  go_ret
  exact ⟨rfl, B4.below⟩

end
end Go.Proofs.Ytpjfhfbjdcgbjab
