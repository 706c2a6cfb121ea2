/-
  A slice of bytes cut: where the cut's bytes lie.
-/
import Derived.Test.YtpjfhfbjdcgbjabIn
namespace Go.Proofs.Ytpjfhfbjdcgbjab
open Go.RowKit
set_option linter.unusedVariables false
set_option linter.unusedSimpArgs false

theorem add_add (ad : Addr) (c j : Nat) : (ad.add c).add j = ad.add (c + j) := by
  unfold Addr.add
  by_cases h1 : c = 0
  · subst h1; simp
  · by_cases h2 : j = 0
    · subst h2; simp [h1]
    · simp [h1, h2, Nat.add_assoc]

def lowAt (a : Option Addr) (cap c : Nat) : Option Addr := if cap = c then a else a.map (·.add c)

theorem src_low {w : World} {a : Option Addr} {zs : List Int} (h : Src w a zs) (cap c : Nat) (hc : zs.length ≤ cap) : Src w (lowAt a cap c) (zs.drop c) := by
  intro h0
  simp at h0
  obtain ⟨ad, h1, h2⟩ := h (by omega)
  subst h1
  refine ⟨ad.add c, by unfold lowAt; rw [if_neg (by omega)]; rfl, fun j v hv => ?_⟩
  rw [add_add]
  refine h2 _ _ ?_
  simpa [cellsOf] using hv

theorem src_high {w : World} {a : Option Addr} {zs : List Int} (h : Src w a zs) (c : Nat) : Src w a (zs.take c) := by
  intro h0
  simp at h0
  obtain ⟨ad, h1, h2⟩ := h (by omega)
  refine ⟨ad, h1, fun j v hv => h2 j v ?_⟩
  simp only [cellsOf, ← List.map_take, List.getElem?_map, Option.map_eq_some_iff] at hv ⊢
  obtain ⟨z, hz, rfl⟩ := hv
  rw [List.getElem?_take] at hz
  split at hz
  · exact ⟨z, hz, rfl⟩
  · cases hz

theorem run_low (w : World) (a : Option Addr) (n cap c : Nat) (h : c ≤ n) : (Instr.slice 30 (.slice a n cap) (some (.int .i64 (c : Int))) none none).run Try.prog w = .ok (.slice (lowAt a cap c) (n - c) (cap - c)) w := by
  have hi := info5
  cases hq : Try.prog.info? 5 with
  | none => simp [hq] at hi
  | some i =>
    have hs : i.size = 1 := by simpa [hq] using hi
    have hb : (Instr.sliceBound (.int .i64 (c : Int)) n .sliceB).run Try.prog w = .ok c w := by
      have := run_sliceBound (P := Try.prog) w .i64 (c : Int) n .sliceB (by omega) (by omega)
      simpa using this
    simp [Instr.slice, run_underlying Try.underlying30, Instr.sliceBounds, sizeOf, typeInfo, hq, hs, hb, lowAt]

theorem run_lowAt (w : World) (a : Option Addr) (n cap c : Nat) (h : c ≤ n) : (Instr.sliceAt 30 (.slice a n cap) (some (.int .i64 (c : Int))) none none).run Try.prog w = .ok (.slice (lowAt a cap c) (n - c) (cap - c)) w := by
  rw [run_sliceAt_slice w 30 _ _ _ _ Try.underlying30]; exact run_low w a n cap c h

theorem run_high (w : World) (a : Option Addr) (n cap c : Nat) (h : c ≤ cap) : (Instr.slice 30 (.slice a n cap) none (some (.int .i64 (c : Int))) none).run Try.prog w = .ok (.slice a c cap) w := by
  have hi := info5
  cases hq : Try.prog.info? 5 with
  | none => simp [hq] at hi
  | some i =>
    have hb : (Instr.sliceBound (.int .i64 (c : Int)) cap .sliceAcap).run Try.prog w = .ok c w := by
      have := run_sliceBound (P := Try.prog) w .i64 (c : Int) cap .sliceAcap (by omega) (by omega)
      simpa using this
    cases a <;> simp [Instr.slice, run_underlying Try.underlying30, Instr.sliceBounds, sizeOf, typeInfo, hq, hb, Addr.add]

theorem run_highAt (w : World) (a : Option Addr) (n cap c : Nat) (h : c ≤ cap) : (Instr.sliceAt 30 (.slice a n cap) none (some (.int .i64 (c : Int))) none).run Try.prog w = .ok (.slice a c cap) w := by
  rw [run_sliceAt_slice w 30 _ _ _ _ Try.underlying30]; exact run_high w a n cap c h

theorem splice_two (L zs : List Int) (c : Nat) (h : zs.length ≤ L.length) (hc : c ≤ zs.length) : splice (splice L c (zs.drop c)) 0 (zs.take c) = splice L 0 zs := by
  unfold splice
  have e1 : (L.take c).length = c := by simp; omega
  have e2 : (zs.take c).length = c := by simp; omega
  rw [List.take_zero, List.nil_append, Nat.zero_add, e2, List.drop_append_of_le_length (by omega), List.drop_of_length_le (by omega), List.nil_append, ← List.append_assoc, List.take_append_drop, List.length_drop]
  simp
  rw [show c + (zs.length - c) = zs.length by omega]

theorem splice_two' (L zs : List Int) (c : Nat) (h : zs.length ≤ L.length) (hc : c ≤ zs.length) : splice (splice L 0 (zs.take c)) c (zs.drop c) = splice L 0 zs := by
  unfold splice
  have e2 : (zs.take c).length = c := by simp; omega
  simp only [List.take_zero, List.nil_append, Nat.zero_add, e2, List.length_drop]
  rw [List.take_append_of_le_length (by omega), List.take_of_length_le (by omega), show c + (zs.length - c) = c + (zs.length - c) from rfl]
  have e3 : (zs.take c ++ L.drop c).drop (c + (zs.length - c)) = L.drop zs.length := by
    rw [List.drop_append, List.drop_of_length_le (by omega), List.drop_drop, e2, List.nil_append]
    congr 1; omega
  rw [e3, ← List.append_assoc, List.take_append_drop]

theorem part_all (L : List Int) (n : Nat) (h : L.length = n) : part L 0 n = L := by
  subst h; simp [part]

end Go.Proofs.Ytpjfhfbjdcgbjab
