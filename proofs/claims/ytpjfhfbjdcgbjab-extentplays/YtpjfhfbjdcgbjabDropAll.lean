/-
  Contract: extent.dropAll: each block of a list is dropped once, one after another.
-/
import Derived.Test.YtpjfhfbjdcgbjabOwnLast
namespace Go.Proofs.Ytpjfhfbjdcgbjab
open Go.RowKit
set_option linter.unusedVariables false
set_option linter.unusedSimpArgs false

/-- a store behind one drop -/
def drop1 (ss : List Slot) (fr : List Nat) (i : Nat) : List Slot × List Nat :=
  match ss[i]? with
  | some s => if s.holds = 1 then (ss.set i Slot.none, fr ++ [i]) else (ss.set i ⟨s.bytes, s.holds - 1⟩, fr)
  | none => (ss, fr)

theorem drop_any {w : World} {p S F : Nat} {ss : List Slot} {fr : List Nat} (h : Ar w p S F ss fr) (i : Nat) (s : Slot) (hi : ss[i]? = some s) (hh : s.holds ≠ 0) :
    Calls Try.prog 30 #[.pointer (some ⟨p, 0, none⟩), .int .i64 (i : Int)] w fun e w' => e = .returned (.int .i64 0) ∧ Ar w' p S F (drop1 ss fr i).1 (drop1 ss fr i).2 ∧ Keeps p S F w w' := by
  unfold drop1
  rw [hi]
  by_cases c : s.holds = 1
  · simp only [c, if_true]
    exact drop_last h i s hi c
  · simp only [c, if_false]
    obtain ⟨k, hk⟩ : ∃ k, s.holds = k + 2 := ⟨s.holds - 2, by omega⟩
    rw [show s.holds - 1 = k + 1 by omega]
    exact drop_more h i s k hi hk

def dropF : List Slot → List Nat → List Nat → List Slot × List Nat
  | ss, fr, [] => (ss, fr)
  | ss, fr, i :: r => dropF (drop1 ss fr i).1 (drop1 ss fr i).2 r

def CanDrop : List Slot → List Nat → List Nat → Prop
  | _, _, [] => True
  | ss, fr, i :: r => (∃ s, ss[i]? = some s ∧ s.holds ≠ 0) ∧ CanDrop (drop1 ss fr i).1 (drop1 ss fr i).2 r

set_option maxHeartbeats 1000000 in
theorem dropAll_w {w : World} {p S F : Nat} {ss : List Slot} {fr : List Nat} (h : Ar w p S F ss fr) (a : Option Addr) (cap : Nat) (ns : List Nat) (hl : ns.length ≤ 1048576) (hI : Ids w a (ns.map fun n : Nat => (n : Int))) (hd : CanDrop ss fr ns)
    (hap : ∀ b off, a = some ⟨b, off, none⟩ → b ≠ p ∧ b ≠ S ∧ b ≠ F) :
    Calls Try.prog 25 #[.pointer (some ⟨p, 0, none⟩), .slice a ns.length cap] w fun e w' => e = .returned (.tuple #[]) ∧ Ar w' p S F (dropF ss fr ns).1 (dropF ss fr ns).2 ∧ Keeps p S F w w' := by
  have HE : Hid (∀ (m i : Nat), ns[m]? = some i → ∃ b off, a = some ⟨b, off, none⟩ ∧ ∀ W, Keeps p S F w W → W.cell? ⟨b, off + m, none⟩ = some (.int .i64 (i : Int))) := by
    intro m i hm
    have hlt := (List.getElem?_eq_some_iff.1 hm).1
    obtain ⟨b, off, e, h2⟩ := hI (by simp; omega)
    obtain ⟨q1, q2, q3⟩ := hap b off e
    refine ⟨b, off, e, fun W K => ?_⟩
    have hc := h2 m i (by simp [hm])
    rw [World.cell?_of_block (a := ⟨b, off + m, none⟩) (K.block _ (World.block_lt_of_cell? w _ hc) q1 q2 q3)]
    exact hc
  clear hI hap
  go_enter Try.func25, Try.ntmps25
  go_wp2_with fail
  go_loopw [5, 8] (fun _ x wr => ∃ (m : Nat) (s1 : List Slot) (f1 : List Nat), m ≤ ns.length ∧ x = .int .i64 (m : Int) ∧ Ar wr p S F s1 f1 ∧ Keeps p S F w wr ∧ CanDrop s1 f1 (ns.drop m) ∧ Hid (dropF s1 f1 (ns.drop m) = dropF ss fr ns)) (fun _ x _ => ns.length - (intOf x).toNat)
  case atStart => exact ⟨0, ss, fr, by omega, rfl, h, Keeps.refl _ _ _ _, by simpa using hd, by simp [Hid]⟩
  case round =>
    clear h hd
    obtain ⟨m, s1, f1, hm, rfl, A, K, C, E⟩ := hrel
    by_cases hlt : m < ns.length
    · have hdr := List.drop_eq_getElem_cons hlt
      have hmi : ns[m]? = some ns[m] := List.getElem?_eq_getElem hlt
      rw [hdr] at C E
      obtain ⟨b, off, e, hcell⟩ := HE.out m _ hmi
      subst e
      have hc := hcell wr K
      obtain ⟨⟨s, hs, hh⟩, C2⟩ := C
      have q := drop_any A ns[m] s hs hh
      have E2 : Hid (dropF (drop1 s1 f1 ns[m]).1 (drop1 s1 f1 ns[m]).2 (ns.drop (m + 1)) = dropF ss fr ns) := E
      have Hd : Hid _ := hdr
      clear hdr hmi E hs hcell
      generalize ns[m] = i at *
      go_wp2_with fail
      refine q.mono ?_
      rintro e w2 ⟨rfl, A2, K2⟩
      go_wp2
      go_roundw
      case rel => exact ⟨m + 1, _, _, by omega, by go_num, A2, K.trans K2, C2, E2⟩
      case measure => simp [intOf]; omega
    · obtain rfl : m = ns.length := by omega
      rw [List.drop_of_length_le (Nat.le_refl _)] at E
      have E2 : dropF ss fr ns = (s1, f1) := E.out.symm
      have A2 : Ar wr p S F (dropF ss fr ns).1 (dropF ss fr ns).2 := by rw [E2]; exact A
      clear E E2 A C
      go_wp2
      go_end0
      exact ⟨rfl, A2, K⟩
end Go.Proofs.Ytpjfhfbjdcgbjab
