/-
  Contracts: sum.Plain, sum.Signed and the two closures that count a byte.
-/
import Derived.Test.YtnmmaedngdibeaaGreatDoorHCells
namespace Go.Proofs.YtnmmaedngdibeaaGreatDoor.H
open Go.RowKit
set_option linter.unusedVariables false
set_option linter.unusedSimpArgs false

theorem cl_plain (z : Int) (w : World) (h : 0 ≤ z ∧ z ≤ 255) : Calls Tryz.prog 69 #[.int .u8 z] w fun e w' => e = .returned (.int .i64 (idt z)) ∧ w = w' := by
  go_enter Tryz.func69, Tryz.ntmps69
  go_wp2
  go_ret
  exact ⟨rfl, rfl⟩

theorem sg_wrap (z : Int) (h : 0 ≤ z ∧ z ≤ 255) : IntKind.i8.wrap z = sg z := by
  obtain ⟨k, rfl⟩ : ∃ k : Nat, z = (k : Int) := ⟨z.toNat, by omega⟩
  have : ∀ k : Fin 256, IntKind.i8.wrap (k.val : Int) = sg (k.val : Int) := by decide +kernel
  exact this ⟨k, by omega⟩

theorem cl_signed (z : Int) (w : World) (h : 0 ≤ z ∧ z ≤ 255) : Calls Tryz.prog 110 #[.int .u8 z] w fun e w' => e = .returned (.int .i64 (sg z)) ∧ w = w' := by
  have e := sg_wrap z h
  have hb : -128 ≤ sg z ∧ sg z ≤ 127 := by unfold sg; split <;> omega
  go_enter Tryz.func110, Tryz.ntmps110
  go_wp2
  go_ret
  exact ⟨rfl, rfl⟩

set_option maxRecDepth 100000 in
set_option maxHeartbeats 1000000 in
theorem add_plain (ad : Addr) (cap : Nat) (zs : List Int) (w : World) (hb : Hid (AllB zs)) (hl : zs.length ≤ 2000) (hs : Src w (some ad) zs) :
    Calls Tryz.prog 68 #[.slice (some ad) zs.length cap, .func (.func 69) #[] #[]] w fun e w' => e = .returned (.int .i64 (addF idt 0 zs)) ∧ w = w' := by
  have hcell := hs.cell
  clear hs
  have hB : Hid (∀ k : Nat, 0 * (k : Int) ≤ addF idt 0 (zs.take k) ∧ addF idt 0 (zs.take k) ≤ 255 * (k : Int)) := fun k => by
    have := addF_bound idt (0) 255 (fun z a b => by unfold idt; first | omega | (split <;> omega)) (zs.take k) 0 (fun z hz => hb z (List.mem_of_mem_take hz))
    have h2 : ((zs.take k).length : Int) ≤ k := by simp; omega
    omega
  have hby : Hid (∀ k : Nat, 0 ≤ zs[k]?.getD 0 ∧ zs[k]?.getD 0 ≤ 255) := fun k => by
    by_cases h : k < zs.length
    · simp only [List.getElem?_eq_getElem h, Option.getD_some]; exact hb _ (List.getElem_mem h)
    · simp [h]
  go_enter Tryz.func68, Tryz.ntmps68
  go_wp2
  go_loopw [5, 10] (fun tn i wr => ∃ (k : Nat), k ≤ zs.length ∧ i = .int .i64 k ∧ tn = .int .i64 (addF idt 0 (zs.take k)) ∧ wr = w)
    (fun _ i _ => zs.length - (intOf i).toNat)
  case atStart => exact ⟨0, Nat.zero_le _, rfl, by simp [addF], rfl⟩
  case round =>
    obtain ⟨k, hk, rfl, rfl, rfl⟩ := hrel
    by_cases hlt : k < zs.length
    · have hc := hcell k hlt
      have hz := hby.out k
      have hst := addF_take idt zs k hlt
      have b0 := hB.out k
      have b1 := hB.out (k + 1)
      generalize hS : addF idt 0 (zs.take k) = S at *
      generalize hT : addF idt 0 (zs.take (k + 1)) = T at *
      generalize zs[k]?.getD 0 = z at *
      have hcn := cntAt_byte k z hz
      clear hcell hB hby hb
      by_cases c1 : 148 ≤ k ∧ k < 156
      · have e1 : cntAt k z = 32 := by simp [cntAt, c1]
        rw [e1] at hst hcn
        obtain ⟨c1, c2⟩ := c1
        have q := cl_plain 32 wr (by omega)
        go_wp2_with fail
        refine q.mono ?_
        rintro e w' ⟨rfl, rfl⟩
        clear q
        go_wp2
        go_roundw
        case rel => exact ⟨k + 1, by omega, by go_num, by rw [hT, hst], by first | rfl | trivial⟩
        case measure => simp [intOf]; omega
      · have e1 : cntAt k z = z := by simp [cntAt, c1]
        rw [e1] at hst hcn
        have q := cl_plain z wr (by omega)
        by_cases c2 : 148 ≤ (k : Int)
        · have c3 : ¬ (k : Int) < 156 := by omega
          go_wp2_with fail
          refine q.mono ?_
          rintro e w' ⟨rfl, rfl⟩
          clear q
          go_wp2
          go_roundw
          case rel => exact ⟨k + 1, by omega, by go_num, by rw [hT, hst], by first | rfl | trivial⟩
          case measure => simp [intOf]; omega
        · go_wp2_with fail
          refine q.mono ?_
          rintro e w' ⟨rfl, rfl⟩
          clear q
          go_wp2
          go_roundw
          case rel => exact ⟨k + 1, by omega, by go_num, by rw [hT, hst], by first | rfl | trivial⟩
          case measure => simp [intOf]; omega
    · obtain rfl : k = zs.length := by omega
      clear hcell hB hby hb
      go_wp2
      go_ret
      exact ⟨by simp, rfl⟩

set_option maxRecDepth 100000 in
set_option maxHeartbeats 1000000 in
theorem add_signed (ad : Addr) (cap : Nat) (zs : List Int) (w : World) (hb : Hid (AllB zs)) (hl : zs.length ≤ 2000) (hs : Src w (some ad) zs) :
    Calls Tryz.prog 68 #[.slice (some ad) zs.length cap, .func (.func 110) #[] #[]] w fun e w' => e = .returned (.int .i64 (addF sg 0 zs)) ∧ w = w' := by
  have hcell := hs.cell
  clear hs
  have hB : Hid (∀ k : Nat, -128 * (k : Int) ≤ addF sg 0 (zs.take k) ∧ addF sg 0 (zs.take k) ≤ 127 * (k : Int)) := fun k => by
    have := addF_bound sg (-128) 127 (fun z a b => by unfold sg; first | omega | (split <;> omega)) (zs.take k) 0 (fun z hz => hb z (List.mem_of_mem_take hz))
    have h2 : ((zs.take k).length : Int) ≤ k := by simp; omega
    omega
  have hby : Hid (∀ k : Nat, 0 ≤ zs[k]?.getD 0 ∧ zs[k]?.getD 0 ≤ 255) := fun k => by
    by_cases h : k < zs.length
    · simp only [List.getElem?_eq_getElem h, Option.getD_some]; exact hb _ (List.getElem_mem h)
    · simp [h]
  go_enter Tryz.func68, Tryz.ntmps68
  go_wp2
  go_loopw [5, 10] (fun tn i wr => ∃ (k : Nat), k ≤ zs.length ∧ i = .int .i64 k ∧ tn = .int .i64 (addF sg 0 (zs.take k)) ∧ wr = w)
    (fun _ i _ => zs.length - (intOf i).toNat)
  case atStart => exact ⟨0, Nat.zero_le _, rfl, by simp [addF], rfl⟩
  case round =>
    obtain ⟨k, hk, rfl, rfl, rfl⟩ := hrel
    by_cases hlt : k < zs.length
    · have hc := hcell k hlt
      have hz := hby.out k
      have hst := addF_take sg zs k hlt
      have b0 := hB.out k
      have b1 := hB.out (k + 1)
      generalize hS : addF sg 0 (zs.take k) = S at *
      generalize hT : addF sg 0 (zs.take (k + 1)) = T at *
      generalize zs[k]?.getD 0 = z at *
      have hcn := cntAt_byte k z hz
      clear hcell hB hby hb
      by_cases c1 : 148 ≤ k ∧ k < 156
      · have e1 : cntAt k z = 32 := by simp [cntAt, c1]
        rw [e1] at hst hcn
        obtain ⟨c1, c2⟩ := c1
        have q := cl_signed 32 wr (by omega)
        go_wp2_with fail
        refine q.mono ?_
        rintro e w' ⟨rfl, rfl⟩
        clear q
        go_wp2
        go_roundw
        case rel => exact ⟨k + 1, by omega, by go_num, by rw [hT, hst], by first | rfl | trivial⟩
        case measure => simp [intOf]; omega
      · have e1 : cntAt k z = z := by simp [cntAt, c1]
        rw [e1] at hst hcn
        have q := cl_signed z wr (by omega)
        by_cases c2 : 148 ≤ (k : Int)
        · have c3 : ¬ (k : Int) < 156 := by omega
          go_wp2_with fail
          refine q.mono ?_
          rintro e w' ⟨rfl, rfl⟩
          clear q
          go_wp2
          go_roundw
          case rel => exact ⟨k + 1, by omega, by go_num, by rw [hT, hst], by first | rfl | trivial⟩
          case measure => simp [intOf]; omega
        · go_wp2_with fail
          refine q.mono ?_
          rintro e w' ⟨rfl, rfl⟩
          clear q
          go_wp2
          go_roundw
          case rel => exact ⟨k + 1, by omega, by go_num, by rw [hT, hst], by first | rfl | trivial⟩
          case measure => simp [intOf]; omega
    · obtain rfl : k = zs.length := by omega
      clear hcell hB hby hb
      go_wp2
      go_ret
      exact ⟨by simp, rfl⟩

end Go.Proofs.YtnmmaedngdibeaaGreatDoor.H
