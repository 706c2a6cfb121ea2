/-
  The laws' head 'holds': true, whatever the world; below what was there nothing turns.
-/
import Derived.Test.YtpjfhfbjdcgbjaaStr
import Derived.Lib.SlBytesConst
namespace Go.Proofs.Ytpjfhfbjdcgbjaa
open Go.RowKit
set_option linter.unusedVariables false
set_option linter.unusedSimpArgs false

theorem src_mark (w : World) (zs : List Int) (t : TypeId) (m : Nat × Nat) : Src (w.alloc (.cells (cellsOf zs).toArray t m)) (some ⟨w.heap.size, 0, none⟩) zs := src_row zs [] (heap_alloc_new w _)

theorem src_mark_at (w : World) (zs : List Int) (t : TypeId) (m : Nat × Nat) (C : Array Value) (h : C = (cellsOf zs).toArray) : Src (w.alloc (.cells C t m)) (some ⟨w.heap.size, 0, none⟩) zs := by
  subst h; exact src_mark w zs t m

set_option maxHeartbeats 1000000 in
theorem head_ok (w : World) : Calls Try.prog 9 #[] w fun e w' => e = .returned (.bool true) ∧ Below w.heap.size w w' := by
  have hn := new_yes 2 w (by decide)
  go_enter Try.func9, Try.ntmps9
  go_wp2_with fail
  refine hn.mono ?_
  rintro e w1 ⟨p, S, F, rfl, hA, hB, g1, g2, g3⟩
  clear hn
  have hf := free_w hA
  have hl := len_w hA
  have ht := take_yes [1] 0 (ss := blank 2) (w := w1) (p := p) (S := S) (F := F) hA
  go_wp2_with fail
  refine hf.mono ?_
  rintro e w' ⟨rfl, rfl⟩
  go_wp2_with fail
  refine hl.mono ?_
  rintro e w' ⟨rfl, rfl⟩
  go_wp2_with fail
  refine ht.mono ?_
  rintro e w2 ⟨rfl, hA2, hK2⟩
  clear hf hl ht hA
  have hA2 : Ar w2 p S F [⟨zeros 64, 1⟩, Slot.none] [1] := hA2
  have kc := Lib.run_convert_bytes_const (P := Try.prog) w2 30 5 #[.int .u8 97, .int .u8 98] 2 2 Try.underlying30 Try.underlying5
  have hw := write_yes (hA2.alloc (.cells #[.int .u8 97, .int .u8 98] 5 (2, 3))) 0 ⟨zeros 64, 1⟩ rfl (by simp) 3 (some ⟨w2.heap.size, 0, none⟩) [97, 98] 2 (by decide) (src_mark_at w2 [97, 98] 5 (2, 3) _ rfl)
  go_wp2_with fail
  refine hw.mono ?_
  rintro e w3 ⟨rfl, hA3, hK3⟩
  clear kc hw
  have hA3 : Ar w3 p S F [⟨splice (zeros 64) 3 [97, 98], 1⟩, Slot.none] [1] := hA3
  have hr := read_yes hA3 0 _ rfl (by simp) 2 4 (by decide)
  go_wp2_with fail
  refine hr.mono ?_
  rintro e w4 ⟨rfl, h4⟩
  clear hr
  rw [show part (splice (zeros 64) 3 [97, 98]) 2 4 = [0, 97, 98, 0] from by decide +kernel] at h4
  have hA4 : Ar w4 p S F [⟨splice (zeros 64) 3 [97, 98], 1⟩, Slot.none] [1] := by rw [h4]; exact hA3.alloc _
  have cv := conv_src w4 (some ⟨w3.heap.size, 0, none⟩) [0, 97, 98, 0] 4 4 rfl (by rw [h4]; exact src_alloc w3 _ _)
  rw [show strOf [0, 97, 98, 0] = ⟨#[0, 97, 98, 0]⟩ from rfl] at cv
  have hB4 : Below w.heap.size w w4 := by
    rw [h4]
    have b2 := hB.trans (hK2.below hB.size g1 g2 g3)
    have b3 := (b2.alloc (by have := b2.size; omega) (.cells #[.int .u8 97, .int .u8 98] 5 (2, 3)))
    have b4 := b3.trans (hK3.below b3.size g1 g2 g3)
    exact b4.alloc b4.size _
  clear h4 hA3 hK3 hA2 hK2 hB
  have hh := holds_yes hA4 0 _ rfl (by simp)
  have hd := drop_last hA4 0 _ rfl rfl
  go_wp2_with fail
  refine hh.mono ?_
  rintro e w' ⟨rfl, rfl⟩
  go_wp2_with fail
  refine hd.mono ?_
  rintro e w5 ⟨rfl, hA5, hK5⟩
  have hf := free_w hA5
  clear hh hd cv
  go_wp2_with fail
  refine hf.mono ?_
  rintro e w' ⟨rfl, rfl⟩
  go_wp2
  go_ret
  exact ⟨rfl, hB4.trans (hK5.below hB4.size g1 g2 g3)⟩
end Go.Proofs.Ytpjfhfbjdcgbjaa
