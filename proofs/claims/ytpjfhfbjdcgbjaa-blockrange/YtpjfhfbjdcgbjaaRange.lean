/-
  The law BlockRange returns true for every three numbers; no condition.
-/
import Derived.Test.YtpjfhfbjdcgbjaaRows
import Derived.Test.YtpjfhfbjdcgbjaaIn
import Derived.ProofKit
import Derived.OpenShut
import Derived.ShutString
import Derived.ChangeOld
import Derived.Below
namespace Go.Proofs.Ytpjfhfbjdcgbjaa.blockRange
open Go.ChangeShapes Go.WideShapes Go.ChangeAt Go.RowKit
set_option linter.unusedVariables false
set_option linter.unusedSimpArgs false

theorem gone3 (b : List Int) (id : Int) (h : id ≠ 0) : Gone [⟨b, 1⟩, Slot.none, Slot.none] id := by
  intro i s e hs
  subst e
  match i, h, hs with
  | 0, h, _ => exact absurd rfl h
  | 1, _, hs => simp at hs; subst hs; rfl
  | 2, _, hs => simp at hs; subst hs; rfl
  | i + 3, _, hs => simp at hs

set_option maxHeartbeats 2000000 in
theorem walk (id at_ n : Int) (w : World) (wi : (Lit.int .i64 id).wf = true) (wa : (Lit.int .i64 at_).wf = true) (wn : (Lit.int .i64 n).wf = true) :
    Calls Try.prog 8 #[.int .i64 id, .int .i64 at_, .int .i64 n] w fun e w' => e = .returned (.bool true) ∧ Below w.heap.size w w' := by
  have hat := bounds_i64 wa
  have hn := bounds_i64 wn
  clear wi wa wn
  go_enter Try.func8, Try.ntmps8
  go_wp2_with fail
  refine (head_ok w).mono ?_
  rintro e w0 ⟨rfl, hb0⟩
  go_wp2_with fail
  refine (new_yes 3 w0 (by decide)).mono ?_
  rintro e w1 ⟨p, S, F, rfl, hA, hB, g1, g2, g3⟩
  have ht := take_yes [2, 1] 0 (ss := blank 3) (w := w1) (p := p) (S := S) (F := F) hA
  clear hA
  go_wp2_with fail
  refine ht.mono ?_
  rintro e w2 ⟨rfl, hA2, hK2⟩
  clear ht
  have hA2 : Ar w2 p S F [⟨zeros 64, 1⟩, Slot.none, Slot.none] [2, 1] := hA2
  have kc := Lib.run_convert_bytes_const (P := Try.prog) w2 30 5 #[.int .u8 97, .int .u8 98, .int .u8 99] 3 3 Try.underlying30 Try.underlying5
  have hw := write_yes (hA2.alloc (.cells #[.int .u8 97, .int .u8 98, .int .u8 99] 5 (3, 4))) 0 ⟨zeros 64, 1⟩ rfl (by simp) 0 (some ⟨w2.heap.size, 0, none⟩) [97, 98, 99] 3 (by decide) (src_mark_at w2 [97, 98, 99] 5 (3, 4) _ rfl)
  go_wp2_with fail
  refine hw.mono ?_
  rintro e w3 ⟨rfl, hA, hK3⟩
  clear kc hw
  have hA : Ar w3 p S F [⟨splice (zeros 64) 0 [97, 98, 99], 1⟩, Slot.none, Slot.none] [2, 1] := hA
  have hb : Below w.heap.size w w3 := by
    have s0 := hb0.size
    have b1 := hb0.trans (hB.mono s0)
    have b2 := b1.trans (hK2.below b1.size (by omega) (by omega) (by omega))
    have b3 := (b2.alloc (by have := b2.size; omega) (.cells #[.int .u8 97, .int .u8 98, .int .u8 99] 5 (3, 4)))
    exact b3.trans (hK3.below b3.size (by omega) (by omega) (by omega))
  clear hb0 hB g1 g2 g3 hA2 hK2 hK3
  by_cases c : id = 0
  · subst c
    by_cases d : inside at_ n = true
    · obtain ⟨k, rfl⟩ : ∃ k : Nat, at_ = k := ⟨at_.toNat, by simp [inside] at d; omega⟩
      obtain ⟨m, rfl⟩ : ∃ m : Nat, n = m := ⟨n.toNat, by simp [inside] at d; omega⟩
      have d1 : k + m ≤ 64 := by simp [inside] at d; omega
      have d2 : (k : Int) ≤ 64 := by omega
      have d3 : (m : Int) ≤ 64 - (k : Int) := by omega
      have hr := read_yes hA 0 _ rfl (by simp) k m d1
      clear d
      go_wp2_with fail
      refine hr.mono ?_
      rintro e w4 ⟨rfl, h4⟩
      clear hr
      have hA4 : Ar w4 p S F [⟨splice (zeros 64) 0 [97, 98, 99], 1⟩, Slot.none, Slot.none] [2, 1] := by rw [h4]; exact hA.alloc _
      have hb4 : Below w.heap.size w w4 := by rw [h4]; exact hb.alloc hb.size _
      clear h4 hA hb
      have hr := read_yes hA4 0 _ rfl (by simp) 0 3 (by decide)
      go_wp2_with fail
      refine hr.mono ?_
      rintro e w5 ⟨rfl, h5⟩
      clear hr
      rw [show part (splice (zeros 64) 0 [97, 98, 99]) 0 3 = [97, 98, 99] from by decide +kernel] at h5
      have hA5 : Ar w5 p S F [⟨splice (zeros 64) 0 [97, 98, 99], 1⟩, Slot.none, Slot.none] [2, 1] := by rw [h5]; exact hA4.alloc _
      have hb5 : Below w.heap.size w w5 := by rw [h5]; exact hb4.alloc hb4.size _
      have cv := conv_src w5 (some ⟨w4.heap.size, 0, none⟩) [97, 98, 99] 3 3 rfl (by rw [h5]; exact src_alloc w4 _ _)
      rw [show strOf [97, 98, 99] = ⟨#[97, 98, 99]⟩ from rfl] at cv
      have hf := free_w hA5
      clear h5 hA4 hb4 hA5
      go_wp2_with fail
      refine hf.mono ?_
      rintro e w' ⟨rfl, rfl⟩
      go_wp2
      go_ret
      exact ⟨rfl, hb5⟩
    · have d0 : inside at_ n = false := by simpa using d
      have hr := read_range hA 0 _ rfl (by simp) at_ n hat hn d0
      have hr2 := read_yes hA 0 _ rfl (by simp) 0 3 (by decide)
      have dd : (at_ < 0) ∨ (0 ≤ at_ ∧ 64 < at_) ∨ (0 ≤ at_ ∧ at_ ≤ 64 ∧ n < 0) ∨ (0 ≤ at_ ∧ at_ ≤ 64 ∧ 0 ≤ n ∧ 64 - at_ < n) := by simp [inside] at d; omega
      clear d d0
      go_wp2_with fail
      refine hr.mono ?_
      rintro e w' ⟨rfl, rfl⟩
      clear hr
      rcases dd with d | ⟨d1, d⟩ | ⟨d1, d2, d⟩ | ⟨d1, d2, d3, d⟩
      all_goals
        go_wp2_with fail
        refine hr2.mono ?_
        rintro e w5 ⟨rfl, h5⟩
        rw [show part (splice (zeros 64) 0 [97, 98, 99]) 0 3 = [97, 98, 99] from by decide +kernel] at h5
        have hA5 : Ar w5 p S F [⟨splice (zeros 64) 0 [97, 98, 99], 1⟩, Slot.none, Slot.none] [2, 1] := by rw [h5]; exact hA.alloc _
        have hb5 : Below w.heap.size w w5 := by rw [h5]; exact hb.alloc hb.size _
        have cv := conv_src w5 (some ⟨w3.heap.size, 0, none⟩) [97, 98, 99] 3 3 rfl (by rw [h5]; exact src_alloc w3 _ _)
        rw [show strOf [97, 98, 99] = ⟨#[97, 98, 99]⟩ from rfl] at cv
        have hf := free_w hA5
        clear h5 hA5 hr2
        go_wp2_with fail
        refine hf.mono ?_
        rintro e w' ⟨rfl, rfl⟩
        go_wp2
        go_ret
        exact ⟨rfl, hb5⟩
  · have hg := gone3 (splice (zeros 64) 0 [97, 98, 99]) id c
    have c0 : (id != 0) = true := by simpa using c
    have q1 := read_no hA id at_ n hg
    have q2 := write_no hA id at_ (.slice none 0 0) hg
    have q3 := hold_no hA id hg
    have q4 := drop_no hA id hg
    have q5 := holds_no hA id hg
    go_wp2_with fail
    refine q1.mono ?_
    rintro e w' ⟨rfl, rfl⟩
    go_wp2_with fail
    refine q2.mono ?_
    rintro e w' ⟨rfl, rfl⟩
    go_wp2_with fail
    refine q3.mono ?_
    rintro e w' ⟨rfl, rfl⟩
    go_wp2_with fail
    refine q4.mono ?_
    rintro e w' ⟨rfl, rfl⟩
    go_wp2_with fail
    refine q5.mono ?_
    rintro e w' ⟨rfl, rfl⟩
    clear q1 q2 q3 q4 q5 hg c
    by_cases d : inside at_ n = true
    · obtain ⟨k, rfl⟩ : ∃ k : Nat, at_ = k := ⟨at_.toNat, by simp [inside] at d; omega⟩
      obtain ⟨m, rfl⟩ : ∃ m : Nat, n = m := ⟨n.toNat, by simp [inside] at d; omega⟩
      have d1 : k + m ≤ 64 := by simp [inside] at d; omega
      have d2 : (k : Int) ≤ 64 := by omega
      have d3 : (m : Int) ≤ 64 - (k : Int) := by omega
      have hr := read_yes hA 0 _ rfl (by simp) k m d1
      clear d
      go_wp2_with fail
      refine hr.mono ?_
      rintro e w4 ⟨rfl, h4⟩
      clear hr
      have hA4 : Ar w4 p S F [⟨splice (zeros 64) 0 [97, 98, 99], 1⟩, Slot.none, Slot.none] [2, 1] := by rw [h4]; exact hA.alloc _
      have hb4 : Below w.heap.size w w4 := by rw [h4]; exact hb.alloc hb.size _
      clear h4 hA hb
      have hr := read_yes hA4 0 _ rfl (by simp) 0 3 (by decide)
      go_wp2_with fail
      refine hr.mono ?_
      rintro e w5 ⟨rfl, h5⟩
      clear hr
      rw [show part (splice (zeros 64) 0 [97, 98, 99]) 0 3 = [97, 98, 99] from by decide +kernel] at h5
      have hA5 : Ar w5 p S F [⟨splice (zeros 64) 0 [97, 98, 99], 1⟩, Slot.none, Slot.none] [2, 1] := by rw [h5]; exact hA4.alloc _
      have hb5 : Below w.heap.size w w5 := by rw [h5]; exact hb4.alloc hb4.size _
      have cv := conv_src w5 (some ⟨w4.heap.size, 0, none⟩) [97, 98, 99] 3 3 rfl (by rw [h5]; exact src_alloc w4 _ _)
      rw [show strOf [97, 98, 99] = ⟨#[97, 98, 99]⟩ from rfl] at cv
      have hf := free_w hA5
      clear h5 hA4 hb4 hA5
      go_wp2_with fail
      refine hf.mono ?_
      rintro e w' ⟨rfl, rfl⟩
      go_wp2
      go_ret
      exact ⟨rfl, hb5⟩
    · have d0 : inside at_ n = false := by simpa using d
      have hr := read_range hA 0 _ rfl (by simp) at_ n hat hn d0
      have hr2 := read_yes hA 0 _ rfl (by simp) 0 3 (by decide)
      have dd : (at_ < 0) ∨ (0 ≤ at_ ∧ 64 < at_) ∨ (0 ≤ at_ ∧ at_ ≤ 64 ∧ n < 0) ∨ (0 ≤ at_ ∧ at_ ≤ 64 ∧ 0 ≤ n ∧ 64 - at_ < n) := by simp [inside] at d; omega
      clear d d0
      go_wp2_with fail
      refine hr.mono ?_
      rintro e w' ⟨rfl, rfl⟩
      clear hr
      rcases dd with d | ⟨d1, d⟩ | ⟨d1, d2, d⟩ | ⟨d1, d2, d3, d⟩
      all_goals
        go_wp2_with fail
        refine hr2.mono ?_
        rintro e w5 ⟨rfl, h5⟩
        rw [show part (splice (zeros 64) 0 [97, 98, 99]) 0 3 = [97, 98, 99] from by decide +kernel] at h5
        have hA5 : Ar w5 p S F [⟨splice (zeros 64) 0 [97, 98, 99], 1⟩, Slot.none, Slot.none] [2, 1] := by rw [h5]; exact hA.alloc _
        have hb5 : Below w.heap.size w w5 := by rw [h5]; exact hb.alloc hb.size _
        have cv := conv_src w5 (some ⟨w3.heap.size, 0, none⟩) [97, 98, 99] 3 3 rfl (by rw [h5]; exact src_alloc w3 _ _)
        rw [show strOf [97, 98, 99] = ⟨#[97, 98, 99]⟩ from rfl] at cv
        have hf := free_w hA5
        clear h5 hA5 hr2
        go_wp2_with fail
        refine hf.mono ?_
        rintro e w' ⟨rfl, rfl⟩
        go_wp2
        go_ret
        exact ⟨rfl, hb5⟩

theorem own : ownKnob Try.prog.godebug = none := by kernel_rfl
theorem laidOut : laidOutB Try.prog = true := by kernel_rfl
set_option maxRecDepth 100000 in
theorem lifted (os : Os) (started : os.Started) (H : Type) (enc : TypeId × Value → H) :
    ReturnsInHanded {} Try.checked os 8 .any (Rows.blockRangeSpec.pre6 enc Try.prog Try.f8 Rows.blockRangeRow.domain false) (Rows.blockRangeSpec.post enc Try.prog Try.f8 false true false false) := by
  refine returnsInHanded_of_change (C := Try.checked) own started (by kernel_rfl) Try.func8
    (ChangeSpec.witness6 (enc := enc) (C := Try.checked) false ⟨#[], #[.int .i64 0, .int .i64 0, .int .i64 0], []⟩ 8 (by kernel_rfl) (by kernel_rfl) (by kernel_rfl) (by kernel_rfl)) ?_
  intro W base args ds gs before hval0 hW hcnd _
  have hval : ∀ (j : Nat) t v, Try.f8.params[j]? = some t → args[j]? = some v → Value.okWide Try.prog W .any base t v := hval0
  have hW' := hW
  obtain ⟨p, q, hA0, hV, rfl, hfz, hnd⟩ := hW
  have hA : DataW.TrodAll enc Try.prog W 0 (fun _ => true) true Try.f8.params.toList args.toList ds p := hA0
  rw [Try.params8] at hA hval
  obtain ⟨v0, vs0, d0, ds0, p0, q0, hargs, rfl, rfl, h0, r0⟩ := trodAll_cons hA
  obtain ⟨v1, vs1, d1, ds1, p1, q1, rfl, rfl, rfl, h1, r1⟩ := trodAll_cons r0
  obtain ⟨v2, vs2, d2, ds2, p2, q2, rfl, rfl, rfl, h2, r2⟩ := trodAll_cons r1
  obtain ⟨rfl, rfl, rfl⟩ := trodAll_nil r2
  obtain rfl : args = #[v0, v1, v2] := by cases args; simp_all
  obtain ⟨rfl, rfl⟩ := trodVars_none hV
  obtain ⟨a0, rfl, rfl, rfl, w0⟩ := open_int Try.underlying3 (hval 0 3 v0 rfl rfl) h0
  obtain ⟨a1, rfl, rfl, rfl, w1⟩ := open_int Try.underlying3 (hval 1 3 v1 rfl rfl) h1
  obtain ⟨a2, rfl, rfl, rfl, w2⟩ := open_int Try.underlying3 (hval 2 3 v2 rfl rfl) h2
  clear hA0 hval0
  refine (walk a0 a1 a2 W w0 w1 w2).mono fun e W' ⟨he, bel⟩ => ?_
  subst he
  exact ⟨_, rfl, _, _, _, [], _, [], hW', trodAll_mk1 (shut_bool Try.underlying4 _), (trodAll_cons_mk (shut_int Try.underlying3 w0) (trodAll_cons_mk (shut_int Try.underlying3 w1) (trodAll_cons_mk (shut_int Try.underlying3 w2) trodAll_mk0))), rfl, bel.frame _, fun h => by cases h⟩

theorem over : Rows.blockRangeRow.holds Try.pinned (OpenSpec.ofChange Rows.blockRangeSpec) :=
  OpenClaim.holds_of_wide 8 Try.f8 rfl rfl rfl rfl rfl rfl rfl ⟨rfl, rfl, rfl, rfl, rfl⟩ rfl rfl rfl rfl rfl (by kernel_rfl) Try.func8 (by kernel_rfl)
    (of_decide_eq_true (by kernel_rfl)) (by unfold Func.isWrapper; first | (rw [if_pos (by decide +kernel)]; kernel_rfl) | (rw [if_neg (by decide +kernel)]; exact ⟨rfl, rfl⟩))
    (fun os started H enc _ => lifted os started H enc)

end Go.Proofs.Ytpjfhfbjdcgbjaa.blockRange
namespace Go.Proofs.Ytpjfhfbjdcgbjaa
theorem blockRange_holds : Rows.BlockRangeSaid := blockRange.over
#print axioms blockRange_holds
end Go.Proofs.Ytpjfhfbjdcgbjaa
