/-
  The head of each law: 'reads' returns true, in every world; it makes new blocks alone.
-/
import Derived.Test.YtamdonhmholjpabParse
import Derived.Test.YtamdonhmholjpabFormat
import Derived.Test.YtamdonhmholjpabStr
import Derived.Lib.SlBytesConst
namespace Go.Proofs.Ytamdonhmholjpab
open Go.RowKit

theorem bytes_row (w : World) (cs : List Int) (t : TypeId) (hl : cs.length ≤ 9223372036854775807) (h : ∀ z ∈ cs, 0 ≤ z ∧ z ≤ 255) : Bytes (w.alloc (.cells (row cs) t)) (some ⟨w.heap.size, 0, none⟩) cs := by
  refine ⟨hl, .inr ⟨w.heap.size, 0, rfl, fun i hi => ?_⟩, fun i => ?_⟩
  · rw [Nat.zero_add, World.cell?_alloc_new, row_get cs i hi]
  · by_cases hi : i < cs.length
    · simp [hi]; exact h _ (List.getElem_mem hi)
    · simp [hi]

theorem bytes_mark (w : World) (cs : List Int) (t : TypeId) (m : Nat × Nat) (hl : cs.length ≤ 9223372036854775807) (h : ∀ z ∈ cs, 0 ≤ z ∧ z ≤ 255) : Bytes (w.alloc (.cells (row cs) t m)) (some ⟨w.heap.size, 0, none⟩) cs := by
  refine ⟨hl, .inr ⟨w.heap.size, 0, rfl, fun i hi => ?_⟩, fun i => ?_⟩
  · rw [Nat.zero_add, World.cell?_alloc_mark, row_get cs i hi]
  · by_cases hi : i < cs.length
    · simp [hi]; exact h _ (List.getElem_mem hi)
    · simp [hi]

theorem parse_reads (w : World) (m : Nat × Nat) :
    Calls Try.prog 10 #[.slice (some ⟨w.heap.size, 0, none⟩) 8 8] (w.alloc (.cells #[.int .u8 48, .int .u8 48, .int .u8 48, .int .u8 48, .int .u8 54, .int .u8 52, .int .u8 52, .int .u8 0] 5 m))
      fun e w' => e = .returned (.tuple #[.int .i64 420, .int .i64 0]) ∧ (w.alloc (.cells #[.int .u8 48, .int .u8 48, .int .u8 48, .int .u8 48, .int .u8 54, .int .u8 52, .int .u8 52, .int .u8 0] 5 m)) = w' :=
  parse_w (some ⟨w.heap.size, 0, none⟩) 8 [48, 48, 48, 48, 54, 52, 52, 0] _ (by decide) (by decide) (bytes_mark w [48, 48, 48, 48, 54, 52, 52, 0] 5 m (by decide) (by decide))

theorem format_reads (w : World) :
    Calls Try.prog 12 #[.int .i64 420, .int .i64 8] w fun e w' => e = .returned (.tuple #[.slice (some ⟨w.heap.size, 0, none⟩) 8 8, .int .i64 0]) ∧
      w' = w.alloc (.cells #[.int .u8 48, .int .u8 48, .int .u8 48, .int .u8 48, .int .u8 54, .int .u8 52, .int .u8 52, .int .u8 0] 5) :=
  format_yes 420 8 w (by decide) (by decide) (by decide) (by decide) (by decide +kernel)

set_option maxHeartbeats 1000000 in
theorem reads_any (w : World) : Calls Try.prog 9 #[] w fun e w' => e = .returned (.bool true) ∧ Below w.heap.size w w' := by
  have kc := fun (w : World) (C : Array Value) (n c : Nat) => Lib.run_convert_bytes_const (P := Try.prog) w 22 5 C n c Try.underlying22 Try.underlying5
  have hs : ∀ o, (convert 22 9 (.slice (some ⟨w.heap.size + 1, 0, none⟩) 8 8)).run Try.prog ((w.alloc o).alloc (.cells #[.int .u8 48, .int .u8 48, .int .u8 48, .int .u8 48, .int .u8 54, .int .u8 52, .int .u8 52, .int .u8 0] 5)) =
      .ok (.string ⟨#[48, 48, 48, 48, 54, 52, 52, 0]⟩) ((w.alloc o).alloc (.cells #[.int .u8 48, .int .u8 48, .int .u8 48, .int .u8 48, .int .u8 54, .int .u8 52, .int .u8 52, .int .u8 0] 5)) := fun o => by
    refine conv_str _ (w.heap.size + 1) 0 8 [48, 48, 48, 48, 54, 52, 52, 0] fun i hi => ?_
    have := World.cell?_alloc_new (w.alloc o) (row [48, 48, 48, 48, 54, 52, 52, 0]) 5 i
    rw [World.size_alloc] at this
    rw [Nat.zero_add]
    exact this.trans (row_get _ i hi)
  go_enter Try.func9, Try.ntmps9
  go_wp2_with (first | (go_at_call 10; (refine (parse_reads _ _).mono ?_); rintro e w' ⟨rfl, rfl⟩) | (go_at_call 12; (refine (format_reads _).mono ?_); rintro e w' ⟨rfl, rfl⟩))
  go_ret
  exact ⟨rfl, ((Below.refl _ _).alloc (Nat.le_refl _) _).alloc (by simp) _⟩

end Go.Proofs.Ytamdonhmholjpab
