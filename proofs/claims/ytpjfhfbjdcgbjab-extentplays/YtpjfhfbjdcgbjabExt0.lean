/-
  Contracts of extent's small functions: blocksFor, fits, lastIsOpen, lastIsShared; where a content's numbers lie.
-/
import Derived.Test.YtpjfhfbjdcgbjabCut
import Derived.BigQuiet
import Derived.Deep.QuietTactic
namespace Go.Proofs.Ytpjfhfbjdcgbjab
open Go.RowKit
set_option linter.unusedVariables false
set_option linter.unusedSimpArgs false

def need (n : Nat) : Nat := (n + 63) / 64

theorem below_drewN {B : Nat} {w w' : World} (h : Below B w w') (n : Nat) : Below B w (w'.drewN n) := ⟨h.os, h.tape, h.output, h.size, h.block⟩
theorem below_box (w : World) (o : Obj) : Below w.heap.size w (w.alloc o) := (Below.refl _ w).alloc (Nat.le_refl _) o

/-- where a slice's numbers lie -/
def Ids (w : World) (a : Option Addr) (ids : List Int) : Prop := 0 < ids.length → ∃ b off, a = some ⟨b, off, none⟩ ∧ ∀ j z, ids[j]? = some z → w.cell? ⟨b, off + j, none⟩ = some (.int .i64 z)

theorem Ids.lt {w : World} {b off : Nat} {ids : List Int} (h : Ids w (some ⟨b, off, none⟩) ids) (h0 : 0 < ids.length) : b < w.heap.size := by
  obtain ⟨b', off', h1, h2⟩ := h h0
  cases h1
  exact World.block_lt_of_cell? w _ (h2 0 _ (List.getElem?_eq_getElem h0))

theorem Ids.moved {w w' : World} {a : Option Addr} {ids : List Int} (h : Ids w a ids) (hb : ∀ b off, a = some ⟨b, off, none⟩ → b < w.heap.size → w'.heap[b]? = w.heap[b]?) : Ids w' a ids := by
  intro h0
  obtain ⟨b, off, rfl, h2⟩ := h h0
  have hlt := Ids.lt h h0
  refine ⟨b, off, rfl, fun j z hz => ?_⟩
  rw [← h2 j z hz]
  exact World.cell?_of_block (hb b off rfl hlt)

theorem Ids.grow {w w' : World} {a : Option Addr} {ids : List Int} (h : Ids w a ids) (hb : Below w.heap.size w w') : Ids w' a ids := h.moved fun _ _ _ hl => hb.block _ hl
theorem Ids.alloc {w : World} {a : Option Addr} {ids : List Int} (h : Ids w a ids) (o : Obj) : Ids (w.alloc o) a ids := h.grow (below_box w o)

theorem Ar.grow {w w' : World} {p S F : Nat} {ss : List Slot} {fr : List Nat} (h : Ar w p S F ss fr) (hb : Below w.heap.size w w') : Ar w' p S F ss fr := by
  obtain ⟨a, b, c⟩ := h.lt
  exact h.moved (hb.block _ a) (hb.block _ b) (hb.block _ c)

/-- how often a block is held; 0 of a number that is no block's -/
def holdsOf (ss : List Slot) (z : Int) : Nat := if z < 0 then 0 else (ss[z.toNat]?.map (·.holds)).getD 0

theorem holdsOf_nat (ss : List Slot) (i : Nat) (s : Slot) (h : ss[i]? = some s) : holdsOf ss (i : Int) = s.holds := by
  unfold holdsOf
  rw [if_neg (by omega), Int.toNat_natCast, h]; rfl

theorem gone_of (ss : List Slot) (z : Int) (h : holdsOf ss z = 0) : Gone ss z := by
  intro i s e hs
  subst e
  rw [holdsOf_nat ss i s hs] at h
  exact h

theorem of_held (ss : List Slot) (z : Int) (h : holdsOf ss z ≠ 0) : ∃ (i : Nat) (s : Slot), z = i ∧ ss[i]? = some s ∧ s.holds = holdsOf ss z := by
  unfold holdsOf at h ⊢
  by_cases c : z < 0
  · simp [c] at h
  · rw [if_neg c] at h ⊢
    cases hs : ss[z.toNat]? with
    | none => rw [hs] at h; simp at h
    | some s => exact ⟨z.toNat, s, by omega, hs, rfl⟩

theorem holds_any {w : World} {p S F : Nat} {ss : List Slot} {fr : List Nat} (h : Ar w p S F ss fr) (z : Int) :
    Calls Try.prog 26 #[.pointer (some ⟨p, 0, none⟩), .int .i64 z] w fun e w' => e = .returned (.int .i64 (holdsOf ss z : Int)) ∧ w = w' := by
  by_cases c : holdsOf ss z = 0
  · rw [c]; exact holds_no h z (gone_of ss z c)
  · obtain ⟨i, s, rfl, hs, he⟩ := of_held ss z c
    rw [← he]
    exact holds_yes h i s hs (by omega)

theorem blocksFor_w (n : Nat) (w : World) (hn : n ≤ 1152921504606846976) :
    Calls Try.prog 29 #[.int .i64 (n : Int)] w fun e w' => e = .returned (.int .i64 (need n : Int)) ∧ w' = w := by
  go_enter Try.func29, Try.ntmps29
  go_wp2
  go_ret
  refine ⟨?_, rfl⟩
  simp
  unfold need
  omega

def fitB (n : Nat) (sz : Int) : Bool := decide (0 ≤ sz ∧ sz ≤ 1048576 ∧ n = need sz.toNat)

theorem fits_w (a : Option Addr) (n cap : Nat) (sz : Int) (w : World) :
    Calls Try.prog 27 #[.agg #[.slice a n cap, .int .i64 sz]] w fun e w' => e = .returned (.bool (fitB n sz)) ∧ Below w.heap.size w w' := by
  by_cases c1 : 0 ≤ sz
  · by_cases c2 : sz ≤ 1048576
    · obtain ⟨k, rfl⟩ : ∃ k : Nat, sz = k := ⟨sz.toNat, by omega⟩
      have hb := fun W => blocksFor_w k W (by omega)
      go_enter Try.func27, Try.ntmps27
      go_wp2_with fail
      go_quiet ((go_at_call 29; exact Calls.quiet_of_same (hb _)))
      go_wp2
      go_ret
      refine ⟨?_, below_drewN (below_box w _) _⟩
      simp [fitB, c2]
      rw [Bool.eq_iff_iff]
      simp
      omega
    · have d1 : decide (sz ≤ 1048576) = false := by simp; omega
      have d2 : decide (0 ≤ sz) = true := by simp; omega
      have d3 : fitB n sz = false := by simp [fitB]; omega
      clear c1 c2
      go_enter Try.func27, Try.ntmps27
      go_wp2_with fail
      go_quiet (fail)
      go_wp2
      go_ret
      exact ⟨by simp [d3], below_drewN (below_box w _) _⟩
  · have d1 : decide (0 ≤ sz) = false := by simp; omega
    have d3 : fitB n sz = false := by simp [fitB]; omega
    clear c1
    go_enter Try.func27, Try.ntmps27
    go_wp2_with fail
    go_quiet (fail)
    go_wp2
    go_ret
    exact ⟨by simp [d3], below_drewN (below_box w _) _⟩

def isOpen (sz : Nat) : Bool := decide (0 < sz % 64)

theorem open_w (a : Option Addr) (n cap : Nat) (sz : Nat) (w : World) (hs : sz ≤ 1152921504606846976) :
    Calls Try.prog 21 #[.agg #[.slice a n cap, .int .i64 (sz : Int)]] w fun e w' => e = .returned (.bool (isOpen sz)) ∧ Below w.heap.size w w' := by
  go_enter Try.func21, Try.ntmps21
  go_wp2
  go_ret
  refine ⟨?_, below_box w _⟩
  simp [isOpen]
  omega

/-- of the last of a content's blocks: how often it is held -/
def lastHolds (ss : List Slot) (ids : List Int) : Nat := holdsOf ss (ids.getLastD 0)
def isShared (ss : List Slot) (ids : List Int) (sz : Nat) : Bool := isOpen sz && decide (1 < lastHolds ss ids)

theorem Ids.last {w : World} {a : Option Addr} {ids : List Int} (h : Ids w a ids) (m : Nat) (hm : ids.length = m + 1) : ∃ b off, a = some ⟨b, off, none⟩ ∧ w.cell? ⟨b, off + m, none⟩ = some (.int .i64 (ids.getLastD 0)) := by
  obtain ⟨b, off, h1, h2⟩ := h (by omega)
  refine ⟨b, off, h1, h2 m _ ?_⟩
  have hne : ids ≠ [] := by intro e; rw [e] at hm; simp at hm
  rw [List.getLastD_eq_getLast?, List.getLast?_eq_getElem?, hm]
  simp [hm]

theorem shared_w {w : World} {p S F : Nat} {ss : List Slot} {fr : List Nat} (h : Ar w p S F ss fr) (a : Option Addr) (cap : Nat) (ids : List Int) (sz : Nat) (hs : sz ≤ 1048576) (hn : ids.length = need sz) (hI : Ids w a ids) :
    Calls Try.prog 19 #[.pointer (some ⟨p, 0, none⟩), .agg #[.slice a ids.length cap, .int .i64 (sz : Int)]] w fun e w' => e = .returned (.bool (isShared ss ids sz)) ∧ Below w.heap.size w w' := by
  by_cases c : isOpen sz = true
  · have c0 : 0 < sz % 64 := by simpa [isOpen] using c
    obtain ⟨m, hm⟩ : ∃ m, ids.length = m + 1 := ⟨ids.length - 1, by unfold need at hn; omega⟩
    have hm2 : m ≤ 16384 := by unfold need at hn; omega
    obtain ⟨b, off, rfl, hl⟩ := hI.last m hm
    have hbl := World.block_lt_of_cell? w _ hl
    have hco := fun W => open_w (some ⟨b, off, none⟩) ids.length cap sz W (by omega)
    rw [c] at hco
    rw [hm] at hco ⊢
    have e1 : isShared ss ids sz = decide (1 < (holdsOf ss (ids.getLastD 0) : Int)) := by simp [isShared, c, lastHolds]; omega
    rw [e1]
    generalize hz : ids.getLastD 0 = z at *
    clear hz hn hI c0 c e1 hm
    go_enter Try.func19, Try.ntmps19
    go_wp2_with fail
    refine (hco _).mono ?_
    rintro e w1 ⟨rfl, b1⟩
    have b1' := (below_box w (.cells #[.slice (some ⟨b, off, none⟩) (m + 1) cap, .int .i64 (sz : Int)] 35)).trans (b1.mono (by simp))
    have hc1 : w1.cell? ⟨b, off + m, none⟩ = some (.int .i64 z) := by rw [World.cell?_of_block (b1'.block _ hbl)]; exact hl
    have hc0 : w1.cell? ⟨w.heap.size, 0, none⟩ = some (.slice (some ⟨b, off, none⟩) (m + 1) cap) := by
      rw [World.cell?_of_block (b1.block _ (by simp))]
      rw [World.cell?_alloc_new]; rfl
    have hh := holds_any (h.grow b1') z
    clear hco hl b1
    go_wp2_with fail
    refine hh.mono ?_
    rintro e w' ⟨rfl, rfl⟩
    go_wp2
    go_ret
    exact ⟨by simp, b1'⟩
  · have c0 : isOpen sz = false := by simpa using c
    have hco := fun W => open_w a ids.length cap sz W (by omega)
    rw [c0] at hco
    have e1 : isShared ss ids sz = false := by simp [isShared, c0]
    rw [e1]
    clear e1 c0 c hI hn
    go_enter Try.func19, Try.ntmps19
    go_wp2_with fail
    refine (hco _).mono ?_
    rintro e w1 ⟨rfl, b1⟩
    have b1' := (below_box w (.cells #[.slice a ids.length cap, .int .i64 (sz : Int)] 35)).trans (b1.mono (by simp))
    go_wp2
    go_ret
    exact ⟨rfl, b1'⟩

end Go.Proofs.Ytpjfhfbjdcgbjab
