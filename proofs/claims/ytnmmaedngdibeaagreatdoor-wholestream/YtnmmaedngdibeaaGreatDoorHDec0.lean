/-
  head.Decode: blocks of another length, blocks whose sum is wrong.
-/
import Derived.Test.YtnmmaedngdibeaaGreatDoorHEnc
import Derived.Laws.ResultCell
namespace Go.Proofs.YtnmmaedngdibeaaGreatDoor.H
open Go.RowKit
set_option linter.unusedVariables false

def hzero : Array Value := #[.int .i64 0, .string ⟨#[]⟩, .string ⟨#[]⟩, .string ⟨#[]⟩, .string ⟨#[]⟩, .string ⟨#[]⟩, .int .u8 0, .int .i64 0, .int .i64 0, .int .i64 0, .int .i64 0, .int .i64 0]
theorem inf25 : (Tryz.prog.info? 55).map (·.size) = some 12 := by kernel_rfl

set_option maxHeartbeats 1000000 in
theorem dec_short (ad : Option Addr) (n cap : Nat) (w : World) (h : n ≠ 512) (h1 : n ≤ 9223372036854775807) :
    Calls Tryz.prog 58 #[.slice ad n cap] w fun e w' => e = .returned (.tuple #[.agg hzero, .int .i64 1]) ∧ Below w.heap.size w w' := by
  have h2 : ¬ (n : Int) = 512 := by omega
  have b1 : Below w.heap.size w (w.alloc (.cells hzero 55)) := (Below.refl _ w).alloc (Nat.le_refl _) _
  have r1 : (w.alloc (.cells hzero 55)).heap[w.heap.size]? = some (.cells hzero 55 (0, 0)) := heap_alloc_new w _
  unfold hzero at *
  go_enter Tryz.func58, Tryz.ntmps58
  go_wp2
  exact bodyPost_ret (by rw [results_cell_tmp rfl]; simp [asAddr, run_loadVar_row _ _ _ 55 _ _ _ r1 Tryz.underlying55 rfl inf25]) rfl ⟨rfl, b1⟩

set_option maxHeartbeats 1000000 in
theorem dec_sum (ad : Addr) (cap : Nat) (zs : List Int) (w : World) (hb : Hid (AllB zs)) (hl : Hid (zs.length = 512)) (hc : 512 ≤ cap) (hc2 : cap ≤ 9223372036854775807) (hs : Src w (some ad) zs) (hr : rightB zs = false) :
    Calls Tryz.prog 58 #[.slice (some ad) 512 cap] w fun e w' => e = .returned (.tuple #[.agg hzero, .int .i64 50]) ∧ Below w.heap.size w w' := by
  have b1 : Below w.heap.size w (w.alloc (.cells hzero 55)) := (Below.refl _ w).alloc (Nat.le_refl _) _
  have r1 : (w.alloc (.cells hzero 55)).heap[w.heap.size]? = some (.cells hzero 55 (0, 0)) := heap_alloc_new w _
  have s1 := hs.grow b1
  have q := right_yes ad cap zs _ hb hl hc hc2 s1
  rw [hr] at q
  unfold hzero at *
  clear s1 hs hb hl hr
  go_enter Tryz.func58, Tryz.ntmps58
  go_wp2_with fail
  refine q.mono ?_
  rintro e w' ⟨rfl, rfl⟩
  go_wp2
  exact bodyPost_ret (by rw [results_cell_tmp rfl]; simp [asAddr, run_loadVar_row _ _ _ 55 _ _ _ r1 Tryz.underlying55 rfl inf25]) rfl ⟨rfl, b1⟩

end Go.Proofs.YtnmmaedngdibeaaGreatDoor.H
