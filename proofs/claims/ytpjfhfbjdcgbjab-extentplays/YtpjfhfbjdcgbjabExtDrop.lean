/-
  Contract: extent.Drop of a content whose blocks are all held.
-/
import Derived.Test.YtpjfhfbjdcgbjabDropAll
namespace Go.Proofs.Ytpjfhfbjdcgbjab
open Go.RowKit
set_option linter.unusedVariables false
set_option linter.unusedSimpArgs false

theorem Keeps.ofBelow {p S F : Nat} {w w' : World} (h : Below w.heap.size w w') : Keeps p S F w w' := ⟨h.os, h.tape, h.output, h.size, fun k h1 _ _ _ => h.block k h1⟩

set_option maxHeartbeats 1000000 in
theorem extDrop_w {w : World} {p S F : Nat} {ss : List Slot} {fr : List Nat} (h : Ar w p S F ss fr) (a : Option Addr) (cap : Nat) (ns : List Nat) (sz : Int) (hl : ns.length ≤ 1048576) (hI : Ids w a (ns.map fun n : Nat => (n : Int))) (hd : CanDrop ss fr ns)
    (hall : ∀ (m i : Nat), ns[m]? = some i → holdsOf ss (i : Int) ≠ 0) (hap : ∀ b off, a = some ⟨b, off, none⟩ → b ≠ p ∧ b ≠ S ∧ b ≠ F) :
    Calls Try.prog 15 #[.pointer (some ⟨p, 0, none⟩), .agg #[.slice a ns.length cap, .int .i64 sz]] w fun e w' => e = .returned (.int .i64 0) ∧ Ar w' p S F (dropF ss fr ns).1 (dropF ss fr ns).2 ∧ Keeps p S F w w' := by
  have HE : Hid (∀ (m i : Nat), ns[m]? = some i → ∃ b off, a = some ⟨b, off, none⟩ ∧ ∀ W, Below w.heap.size w W → W.cell? ⟨b, off + m, none⟩ = some (.int .i64 (i : Int))) := by
    intro m i hm
    have hlt := (List.getElem?_eq_some_iff.1 hm).1
    obtain ⟨b, off, e, h2⟩ := hI (by simp; omega)
    refine ⟨b, off, e, fun W K => ?_⟩
    have hc := h2 m i (by simp [hm])
    rw [World.cell?_of_block (a := ⟨b, off + m, none⟩) (K.block _ (World.block_lt_of_cell? w _ hc))]
    exact hc
  have HA : Hid _ := hall
  have HI : Hid _ := hI
  have HP : Hid _ := hap
  clear hall hI hap
  have B0 := Box.mk w (.slice a ns.length cap) sz
  have k0 := B0.c0
  go_enter Try.func15, Try.ntmps15
  go_wp2_with fail
  generalize w.alloc (.cells #[.slice a ns.length cap, .int .i64 sz] 35) = w1 at *
  have A1 := h.grow B0.below
  go_loopw [6, 10] (fun _ x wr => ∃ m : Nat, m ≤ ns.length ∧ x = .int .i64 (m : Int) ∧ w1 = wr) (fun _ x _ => ns.length - (intOf x).toNat)
  case atStart => exact ⟨0, by omega, rfl, rfl⟩
  case round =>
    obtain ⟨m, hm, rfl, rfl⟩ := hrel
    by_cases hlt : m < ns.length
    · have hmi : ns[m]? = some ns[m] := List.getElem?_eq_getElem hlt
      obtain ⟨b, off, e, hcell⟩ := HE.out m _ hmi
      subst e
      have hc := hcell w1 B0.below
      have q := holds_any A1 (ns[m] : Int)
      have hz : ((holdsOf ss (ns[m] : Int) : Int) == 0) = false := by
        have := HA.out m _ hmi
        simpa using this
      clear hmi hcell
      generalize ns[m] = i at *
      generalize holdsOf ss (i : Int) = hh at *
      go_wp2_with fail
      refine q.mono ?_
      rintro e w2 ⟨rfl, rfl⟩
      go_wp2
      go_roundw
      case rel => exact ⟨m + 1, by omega, by go_num, trivial⟩
      case measure => simp [intOf]; omega
    · obtain rfl : m = ns.length := by omega
      have q := dropAll_w A1 a cap ns hl (Ids.grow HI.out B0.below) hd HP.out
      go_wp2_with fail
      refine q.mono ?_
      rintro e w2 ⟨rfl, A2, K2⟩
      have K3 := (Keeps.ofBelow (p := p) (S := S) (F := F) B0.below).trans K2
      go_wp2
      go_ret
      exact ⟨rfl, A2, K3⟩
end Go.Proofs.Ytpjfhfbjdcgbjab
