/-
  The law BlockHolds returns true for every number and every bytes; no condition.
-/
import Derived.Test.YtpjfhfbjdcgbjaaRows
import Derived.Test.YtpjfhfbjdcgbjaaIn
import Derived.ProofKit
import Derived.OpenShut
import Derived.ShutString
import Derived.ChangeOld
import Derived.Below
namespace Go.Proofs.Ytpjfhfbjdcgbjaa.blockHolds
open Go.ChangeShapes Go.WideShapes Go.ChangeAt Go.RowKit
set_option linter.unusedVariables false
set_option linter.unusedSimpArgs false

/-- the store behind the loops: its one block held j times -/
def One (w w' : World) (p S F : Nat) (B : List Int) (j : Nat) : Prop :=
  Ar w' p S F [if j = 0 then Slot.none else ⟨B, j⟩] (if j = 0 then [0] else []) ∧ Below w.heap.size w w' ∧ w.heap.size ≤ p ∧ w.heap.size ≤ S ∧ w.heap.size ≤ F

theorem One.next {w w1 w2 : World} {p S F : Nat} {B : List Int} {i j : Nat} (h : One w w1 p S F B i) (hA : Ar w2 p S F [if j = 0 then Slot.none else ⟨B, j⟩] (if j = 0 then [0] else [])) (hK : Keeps p S F w1 w2) : One w w2 p S F B j :=
  ⟨hA, h.2.1.trans (hK.below h.2.1.size h.2.2.1 h.2.2.2.1 h.2.2.2.2), h.2.2⟩
theorem One.alloc {w w1 : World} {p S F : Nat} {B : List Int} {i : Nat} (h : One w w1 p S F B i) (o : Obj) : One w (w1.alloc o) p S F B i :=
  ⟨h.1.alloc o, h.2.1.alloc h.2.1.size o, h.2.2⟩

set_option maxHeartbeats 2000000 in
theorem walk_yes (k : Nat) (a : Option Addr) (cap : Nat) (zs : List Int) (w : World) (hk : k ≤ 49) (hz : zs.length ≤ 64) (hsrc : Src w a zs) :
    Calls Try.prog 6 #[.int .i64 ((k : Int) + 1), .slice a zs.length cap] w fun e w' => e = .returned (.bool true) ∧ Below w.heap.size w w' := by
  have hz' : ¬ (64 : Int) < zs.length := by omega
  go_enter Try.func6, Try.ntmps6
  go_wp2_with fail
  refine (head_ok w).mono ?_
  rintro e w0 ⟨rfl, hb0⟩
  go_wp2_with fail
  refine (new_yes 1 w0 (by decide)).mono ?_
  rintro e w1 ⟨p, S, F, rfl, hA, hB, g1, g2, g3⟩
  have ht := take_yes [] 0 (ss := blank 1) (w := w1) (p := p) (S := S) (F := F) hA
  go_wp2_with fail
  refine ht.mono ?_
  rintro e w2 ⟨rfl, hA2, hK2⟩
  clear ht hA
  have hA2 : Ar w2 p S F [⟨zeros 64, 1⟩] [] := hA2
  have s0 := hb0.size
  have b1 := hb0.trans (hB.mono s0)
  have b2 := b1.trans (hK2.below b1.size (by omega) (by omega) (by omega))
  have hw := write_yes hA2 0 ⟨zeros 64, 1⟩ rfl (by simp) 0 a zs cap (by omega) (hsrc.grow b2)
  go_wp2_with fail
  refine hw.mono ?_
  rintro e w3 ⟨rfl, hA3, hK3⟩
  clear hw
  have hO : One w w3 p S F (splice (zeros 64) 0 zs) 1 := ⟨hA3, b2.trans (hK3.below b2.size (by omega) (by omega) (by omega)), by omega, by omega, by omega⟩
  have hpart : Hid (part (splice (zeros 64) 0 zs) 0 zs.length = zs) := part_splice _ _ _ (by rw [zeros_length]; omega)
  have hBl : Hid ((splice (zeros 64) 0 zs).length = 64) := by show _ = _; rw [length_splice _ _ _ (by rw [zeros_length]; omega), zeros_length]
  clear hb0 hB g1 g2 g3 s0 b1 b2 hA2 hA3 hK2 hK3
  generalize splice (zeros 64) 0 zs = B at *
  go_wp2_with fail
  go_loopw [42] (fun x wr => ∃ m : Nat, m ≤ k ∧ x = .int .i64 (m : Int) ∧ One w wr p S F B (m + 1)) (fun x _ => k - (intOf x).toNat)
  case atStart => exact ⟨0, by omega, rfl, hO⟩
  case round =>
    clear hO
    obtain ⟨m, hm, rfl, hO⟩ := hrel
    by_cases hlt : m < k
    · have hh := hold_yes hO.1 0 ⟨B, m + 1⟩ rfl (by simp) (by show m + 1 < _; omega)
      go_wp2_with fail
      refine hh.mono ?_
      rintro e w4 ⟨rfl, hA4, hK4⟩
      clear hh
      have hO4 : One w w4 p S F B (m + 1 + 1) := hO.next hA4 hK4
      go_wp2
      go_roundw
      case rel => exact ⟨m + 1, by omega, by go_num, hO4⟩
      case measure => simp [intOf]; omega
    · obtain rfl : m = k := by omega
      go_wp2_with fail
      go_loopw [9, 10, 11] (fun x _ _ wr => ∃ j : Nat, j ≤ m + 1 ∧ x = .int .i64 (j : Int) ∧ One w wr p S F B j) (fun x _ _ _ => (intOf x).toNat)
      case atStart => exact ⟨m + 1, by omega, by go_num, hO⟩
      case round =>
        clear hO
        obtain ⟨j, hj, rfl, hO⟩ := hrel
        cases j with
        | zero =>
          have hA : Ar _ p S F [Slot.none] [0] := hO.1
          have q1 := read_no hA 0 0 0 (gone_none 0)
          have q2 := free_w hA
          have q3 := hold_no hA 0 (gone_none 0)
          have q4 := write_no hA 0 0 (.slice none 0 0) (gone_none 0)
          have hb := hO.2.1
          clear hO hA
          go_wp2_with fail
          refine q1.mono ?_
          rintro e w' ⟨rfl, rfl⟩
          go_wp2_with fail
          refine q2.mono ?_
          rintro e w' ⟨rfl, rfl⟩
          go_wp2_with fail
          refine q3.mono ?_
          rintro e w' ⟨rfl, rfl⟩
          go_wp2_with fail
          refine q4.mono ?_
          rintro e w' ⟨rfl, rfl⟩
          go_wp2
          go_ret
          exact ⟨rfl, hb⟩
        | succ j =>
          have hA : Ar _ p S F [⟨B, j + 1⟩] [] := hO.1
          have q1 := read_yes hA 0 ⟨B, j + 1⟩ rfl (by simp) 0 zs.length (by omega)
          have hj0 : (0 : Int) < ((j + 1 : Nat) : Int) := by omega
          rw [hpart.out] at q1
          go_wp2_with fail
          refine q1.mono ?_
          rintro e w5 ⟨rfl, h5⟩
          clear q1 hA
          have hO5 : One w w5 p S F B (j + 1) := by rw [h5]; exact hO.alloc _
          have cv1 := conv_src w5 (some ⟨wr.heap.size, 0, none⟩) zs zs.length zs.length rfl (by rw [h5]; exact src_alloc wr _ _)
          have cv2 := conv_src w5 a zs zs.length cap rfl (hsrc.grow hO5.2.1)
          clear h5 hO
          have hA : Ar _ p S F [⟨B, j + 1⟩] [] := hO5.1
          have q2 := holds_yes hA 0 ⟨B, j + 1⟩ rfl (by simp)
          have q3 := free_w hA
          go_wp2_with fail
          refine q2.mono ?_
          rintro e w' ⟨rfl, rfl⟩
          go_wp2_with fail
          refine q3.mono ?_
          rintro e w' ⟨rfl, rfl⟩
          clear q2 q3
          cases j with
          | zero =>
            have q4 := drop_last hA 0 ⟨B, 1⟩ rfl rfl
            go_wp2_with fail
            refine q4.mono ?_
            rintro e w6 ⟨rfl, hA6, hK6⟩
            have hO6 : One w w6 p S F B 0 := hO5.next hA6 hK6
            go_wp2
            go_roundw
            case rel => exact ⟨0, by omega, by go_num, hO6⟩
            case measure => simp [intOf]
          | succ j =>
            have q4 := drop_more hA 0 ⟨B, j + 2⟩ j rfl rfl
            go_wp2_with fail
            refine q4.mono ?_
            rintro e w6 ⟨rfl, hA6, hK6⟩
            have hO6 : One w w6 p S F B (j + 1) := hO5.next hA6 hK6
            go_wp2
            go_roundw
            case rel => exact ⟨j + 1, by omega, by go_num, hO6⟩
            case measure => simp [intOf]; omega

theorem walk_no (n : Int) (a : Option Addr) (l cap : Nat) (w : World) (h : n < 1 ∨ 50 < n ∨ 64 < l) :
    Calls Try.prog 6 #[.int .i64 n, .slice a l cap] w fun e w' => e = .returned (.bool true) ∧ Below w.heap.size w w' := by
  by_cases c1 : n < 1
  · go_enter Try.func6, Try.ntmps6
    go_wp2_with (go_at_call 9; refine (head_ok _).mono ?_; rintro e w1 ⟨rfl, hb1⟩)
    go_ret
    exact ⟨rfl, hb1⟩
  · by_cases c2 : 50 < n
    · go_enter Try.func6, Try.ntmps6
      go_wp2_with (go_at_call 9; refine (head_ok _).mono ?_; rintro e w1 ⟨rfl, hb1⟩)
      go_ret
      exact ⟨rfl, hb1⟩
    · have c3 : (64 : Int) < l := by omega
      go_enter Try.func6, Try.ntmps6
      go_wp2_with (go_at_call 9; refine (head_ok _).mono ?_; rintro e w1 ⟨rfl, hb1⟩)
      go_ret
      exact ⟨rfl, hb1⟩

theorem walk (n : Int) (a : Option Addr) (l cap : Nat) (zs : List Int) (w : World) (wn : (Lit.int .i64 n).wf = true) (hr : IsRow .u8 w a l cap zs) :
    Calls Try.prog 6 #[.int .i64 n, .slice a l cap] w fun e w' => e = .returned (.bool true) ∧ Below w.heap.size w w' := by
  obtain ⟨hs, hl, _, _⟩ := row_src hr
  by_cases c : n < 1 ∨ 50 < n ∨ 64 < l
  · exact walk_no n a l cap w c
  · obtain ⟨k, rfl⟩ : ∃ k : Nat, n = (k : Int) + 1 := ⟨(n - 1).toNat, by omega⟩
    have := walk_yes k a cap (zs.take l) w (by omega) (by omega) hs
    rw [hl] at this
    exact this

theorem own : ownKnob Try.prog.godebug = none := by kernel_rfl
theorem laidOut : laidOutB Try.prog = true := by kernel_rfl
set_option maxRecDepth 100000 in
theorem lifted (os : Os) (started : os.Started) (H : Type) (enc : TypeId × Value → H) :
    ReturnsInHanded {} Try.checked os 6 .any (Rows.blockHoldsSpec.pre6 enc Try.prog Try.f6 Rows.blockHoldsRow.domain false) (Rows.blockHoldsSpec.post enc Try.prog Try.f6 false true false false) := by
  refine returnsInHanded_of_change (C := Try.checked) own started (by kernel_rfl) Try.func6
    (ChangeSpec.witness6 (enc := enc) (C := Try.checked) false ⟨#[], #[.int .i64 0, .slice none 0 0], []⟩ 8 (by kernel_rfl) (by kernel_rfl) (by kernel_rfl) (by kernel_rfl)) ?_
  intro W base args ds gs before hval0 hW hcnd _
  have hval : ∀ (j : Nat) t v, Try.f6.params[j]? = some t → args[j]? = some v → Value.okWide Try.prog W .any base t v := hval0
  have hW' := hW
  obtain ⟨p, q, hA0, hV, rfl, hfz, hnd⟩ := hW
  have hA : DataW.TrodAll enc Try.prog W 0 (fun _ => true) true Try.f6.params.toList args.toList ds p := hA0
  rw [Try.params6] at hA hval
  obtain ⟨v0, vs0, d0, ds0, p0, q0, hargs, rfl, rfl, h0, r0⟩ := trodAll_cons hA
  obtain ⟨v1, vs1, d1, ds1, p1, q1, rfl, rfl, rfl, h1, r1⟩ := trodAll_cons r0
  obtain ⟨rfl, rfl, rfl⟩ := trodAll_nil r1
  obtain rfl : args = #[v0, v1] := by cases args; simp_all
  obtain ⟨rfl, rfl⟩ := trodVars_none hV
  obtain ⟨a0, rfl, rfl, rfl, w0⟩ := open_int Try.underlying3 (hval 0 3 v0 rfl rfl) h0
  obtain ⟨a1, len1, cap1, rfl⟩ := okWide_slice Try.underlying30 (hval 1 30 v1 rfl rfl)
  have k1 := h1
  have lt1 : ∀ x ∈ p1, x.block < W.heap.size := by obtain ⟨m, hm⟩ := k1; exact DataW.trod_lt m _ _ _ hm
  obtain ⟨z1, w1⟩ : ∃ zs, IsRow .u8 W a1 len1 cap1 zs := by
    obtain ⟨fuel, hf⟩ := h1
    rcases open_ints Try.underlying30 Try.underlying5 (by kernel_rfl) hf with ⟨hcs, _⟩ | ⟨x, l, c, zs, hcs, _, hl, hm, hz, _, hcell, hwz⟩
    · simp [Value.cells] at hcs
      obtain ⟨rfl, rfl, rfl⟩ := hcs
      exact ⟨[], .inl ⟨rfl, rfl, rfl, rfl⟩⟩
    · simp [Value.cells] at hcs
      obtain ⟨rfl, rfl, rfl⟩ := hcs
      exact ⟨zs, .inr ⟨_, rfl, hl, hm, by simpa using hz, hcell, hwz⟩⟩
  clear hA0 hval0
  refine (walk a0 a1 len1 cap1 z1 W w0 w1).mono fun e W' ⟨he, bel⟩ => ?_
  subst he
  exact ⟨_, rfl, _, _, _, [], _, [], hW', trodAll_mk1 (shut_bool Try.underlying4 _), (trodAll_cons_mk (shut_int Try.underlying3 w0) (trodAll_cons_mk (Below.trod laidOut (by kernel_rfl) (of_decide_eq_true (by kernel_rfl)) k1 bel lt1) trodAll_mk0)), rfl, bel.frame _, fun h => by cases h⟩

theorem over : Rows.blockHoldsRow.holds Try.pinned (OpenSpec.ofChange Rows.blockHoldsSpec) :=
  OpenClaim.holds_of_wide 6 Try.f6 rfl rfl rfl rfl rfl rfl rfl ⟨rfl, rfl, rfl, rfl, rfl⟩ rfl rfl rfl rfl rfl (by kernel_rfl) Try.func6 (by kernel_rfl)
    (of_decide_eq_true (by kernel_rfl)) (by unfold Func.isWrapper; first | (rw [if_pos (by decide +kernel)]; kernel_rfl) | (rw [if_neg (by decide +kernel)]; exact ⟨rfl, rfl⟩))
    (fun os started H enc _ => lifted os started H enc)

end Go.Proofs.Ytpjfhfbjdcgbjaa.blockHolds
namespace Go.Proofs.Ytpjfhfbjdcgbjaa
theorem blockHolds_holds : Rows.BlockHoldsSaid := blockHolds.over
#print axioms blockHolds_holds
end Go.Proofs.Ytpjfhfbjdcgbjaa
