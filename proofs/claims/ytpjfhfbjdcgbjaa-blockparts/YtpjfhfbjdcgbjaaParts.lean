/-
  The law BlockParts returns true for every bytes, every cut, either way round; no condition.
-/
import Derived.Test.YtpjfhfbjdcgbjaaRows
import Derived.Test.YtpjfhfbjdcgbjaaCut
import Derived.ProofKit
import Derived.OpenShut
import Derived.ShutString
import Derived.ChangeOld
import Derived.Below
import Derived.BigQuiet
namespace Go.Proofs.Ytpjfhfbjdcgbjaa.blockParts
open Go.ChangeShapes Go.WideShapes Go.ChangeAt Go.RowKit
set_option linter.unusedVariables false
set_option linter.unusedSimpArgs false

set_option maxHeartbeats 2000000 in
theorem walk_yes (c : Nat) (back : Bool) (a : Option Addr) (cap : Nat) (zs : List Int) (w : World) (hc : c ≤ zs.length) (hz : zs.length ≤ 64) (hcap : zs.length ≤ cap) (hsrc : Src w a zs) :
    Calls Try.prog 7 #[.slice a zs.length cap, .int .i64 (c : Int), .bool back] w fun e w' => e = .returned (.bool true) ∧ Below w.heap.size w w' := by
  have hz' : ¬ (64 : Int) < zs.length := by omega
  have H : Hid (c ≤ zs.length) := hc
  have hc' : ¬ (zs.length : Int) < (c : Int) := by omega
  have hc0 : ¬ (c : Int) < 0 := by omega
  clear hc
  have hr1 := fun W => run_lowAt W a zs.length cap c H.out
  have hr2 := fun W => run_highAt W a zs.length cap c (by have := H.out; omega)
  go_enter Try.func7, Try.ntmps7
  go_wp2_with fail
  refine (head_ok w).mono ?_
  rintro e w0 ⟨rfl, hb0⟩
  go_wp2_with fail
  refine (new_yes 2 w0 (by decide)).mono ?_
  rintro e w1 ⟨p, S, F, rfl, hA, hB, g1, g2, g3⟩
  have ht := take_yes [1] 0 (ss := blank 2) (w := w1) (p := p) (S := S) (F := F) hA
  go_wp2_with fail
  refine ht.mono ?_
  rintro e w2 ⟨rfl, hA2, hK2⟩
  clear ht hA
  have ht := take_yes [] 1 (ss := [⟨zeros 64, 1⟩, Slot.none]) (w := w2) (p := p) (S := S) (F := F) hA2
  go_wp2_with fail
  refine ht.mono ?_
  rintro e w3 ⟨rfl, hA3, hK3⟩
  clear ht hA2
  have hA3 : Ar w3 p S F [⟨zeros 64, 1⟩, ⟨zeros 64, 1⟩] [] := hA3
  have s0 := hb0.size
  have b1 := hb0.trans (hB.mono s0)
  have b2 := b1.trans (hK2.below b1.size (by omega) (by omega) (by omega))
  have b3 := b2.trans (hK3.below b2.size (by omega) (by omega) (by omega))
  have hw := write_yes hA3 0 ⟨zeros 64, 1⟩ rfl (by simp) 0 a zs cap (by omega) (hsrc.grow b3)
  go_wp2_with fail
  refine hw.mono ?_
  rintro e w4 ⟨rfl, hA4, hK4⟩
  clear hw
  have hA4 : Ar w4 p S F [⟨splice (zeros 64) 0 zs, 1⟩, ⟨zeros 64, 1⟩] [] := hA4
  have g1 : w.heap.size ≤ p := by omega
  have g2 : w.heap.size ≤ S := by omega
  have g3 : w.heap.size ≤ F := by omega
  have b4 := b3.trans (hK4.below b3.size g1 g2 g3)
  clear hb0 hB s0 b1 b2 b3 hK2 hK3 hK4 hA3
  cases back with
  | true =>
    have hw1 := write_yes hA4 1 ⟨zeros 64, 1⟩ rfl (by simp) c (lowAt a cap c) (zs.drop c) (cap - c) (by simp [zeros]; omega) (src_low (hsrc.grow b4) cap c hcap)
    rw [List.length_drop] at hw1
    go_wp2_with fail
    refine hw1.mono ?_
    rintro e w5 ⟨rfl, hA5, hK5⟩
    clear hw1
    have hA5 : Ar w5 p S F [⟨splice (zeros 64) 0 zs, 1⟩, ⟨splice (zeros 64) c (zs.drop c), 1⟩] [] := hA5
    have b5 := b4.trans (hK5.below b4.size g1 g2 g3)
    have hw2 := write_yes hA5 1 _ rfl (by simp) 0 a (zs.take c) cap (by simp; omega) (src_high (hsrc.grow b5) c)
    rw [List.length_take, Nat.min_eq_left H.out] at hw2
    go_wp2_with fail
    refine hw2.mono ?_
    rintro e w6 ⟨rfl, hA6, hK6⟩
    clear hw2
    have hA6 : Ar w6 p S F [⟨splice (zeros 64) 0 zs, 1⟩, ⟨splice (splice (zeros 64) c (zs.drop c)) 0 (zs.take c), 1⟩] [] := hA6
    rw [splice_two _ _ _ (by rw [zeros_length]; omega) H.out] at hA6
    have b6 := b5.trans (hK6.below b5.size g1 g2 g3)
    have hBl : (splice (zeros 64) 0 zs).length = 64 := by rw [length_splice _ _ _ (by rw [zeros_length]; omega), zeros_length]
    have hpart : part (splice (zeros 64) 0 zs) 0 zs.length = zs := part_splice _ _ _ (by rw [zeros_length]; omega)
    generalize splice (zeros 64) 0 zs = B at *
    clear hA4 hA5 hK5 hK6 b5 hr1 hr2
    have q1 := read_yes hA6 0 ⟨B, 1⟩ rfl (by simp) 0 64 (by decide)
    rw [part_all B 64 hBl] at q1
    go_wp2_with fail
    refine q1.mono ?_
    rintro e w7 ⟨rfl, h7⟩
    clear q1
    have hA7 : Ar w7 p S F [⟨B, 1⟩, ⟨B, 1⟩] [] := by rw [h7]; exact hA6.alloc _
    have b7 : Below w.heap.size w w7 := by rw [h7]; exact b6.alloc b6.size _
    have s7 : Src w7 (some ⟨w6.heap.size, 0, none⟩) B := by rw [h7]; exact src_alloc w6 _ _
    have q2 := read_yes hA7 1 ⟨B, 1⟩ rfl (by simp) 0 64 (by decide)
    rw [part_all B 64 hBl] at q2
    clear h7 hA6 b6
    go_wp2_with fail
    refine q2.mono ?_
    rintro e w8 ⟨rfl, h8⟩
    clear q2
    have b8 : Below w.heap.size w w8 := by rw [h8]; exact b7.alloc b7.size _
    have s8 : Src w8 (some ⟨w7.heap.size, 0, none⟩) B := by rw [h8]; exact src_alloc w7 _ _
    have s9 : Src w8 (some ⟨w6.heap.size, 0, none⟩) B := by rw [h8]; exact s7.alloc _
    have s10 : Src w8 (some ⟨w6.heap.size, 0, none⟩) zs := by
      have := src_high s9 zs.length
      rw [show B.take zs.length = zs from hpart] at this
      exact this
    have cv1 := fun nq => conv_src (w8.drewN nq) (some ⟨w6.heap.size, 0, none⟩) B 64 64 hBl (s9.moved fun _ _ => rfl)
    have cv2 := fun nq => conv_src (w8.drewN nq) (some ⟨w7.heap.size, 0, none⟩) B 64 64 hBl (s8.moved fun _ _ => rfl)
    have cv3 := fun nq => conv_src (w8.drewN nq) (some ⟨w6.heap.size, 0, none⟩) zs zs.length 64 rfl (s10.moved fun _ _ => rfl)
    have cv4 := fun nq => conv_src (w8.drewN nq) a zs zs.length cap rfl ((hsrc.grow b8).moved fun _ _ => rfl)
    clear h8 hA7 b7 s7 s8 s9 s10 hBl hpart
    generalize w6.heap.size = g6 at *
    generalize w7.heap.size = g7 at *
    go_wp2_with fail
    go_quiet (fail)
    go_wp2
    go_ret
    exact ⟨rfl, b8.os, b8.tape, b8.output, b8.size, b8.block⟩
  | false =>
    have hw2 := write_yes hA4 1 ⟨zeros 64, 1⟩ rfl (by simp) 0 a (zs.take c) cap (by simp; omega) (src_high (hsrc.grow b4) c)
    rw [List.length_take, Nat.min_eq_left H.out] at hw2
    go_wp2_with fail
    refine hw2.mono ?_
    rintro e w5 ⟨rfl, hA5, hK5⟩
    clear hw2
    have hA5 : Ar w5 p S F [⟨splice (zeros 64) 0 zs, 1⟩, ⟨splice (zeros 64) 0 (zs.take c), 1⟩] [] := hA5
    have b5 := b4.trans (hK5.below b4.size g1 g2 g3)
    have hw1 := write_yes hA5 1 _ rfl (by simp) c (lowAt a cap c) (zs.drop c) (cap - c) (by simp; omega) (src_low (hsrc.grow b5) cap c hcap)
    rw [List.length_drop] at hw1
    go_wp2_with fail
    refine hw1.mono ?_
    rintro e w6 ⟨rfl, hA6, hK6⟩
    clear hw1
    have hA6 : Ar w6 p S F [⟨splice (zeros 64) 0 zs, 1⟩, ⟨splice (splice (zeros 64) 0 (zs.take c)) c (zs.drop c), 1⟩] [] := hA6
    rw [splice_two' _ _ _ (by rw [zeros_length]; omega) H.out] at hA6
    have b6 := b5.trans (hK6.below b5.size g1 g2 g3)
    have hBl : (splice (zeros 64) 0 zs).length = 64 := by rw [length_splice _ _ _ (by rw [zeros_length]; omega), zeros_length]
    have hpart : part (splice (zeros 64) 0 zs) 0 zs.length = zs := part_splice _ _ _ (by rw [zeros_length]; omega)
    generalize splice (zeros 64) 0 zs = B at *
    clear hA4 hA5 hK5 hK6 b5 hr1 hr2
    have q1 := read_yes hA6 0 ⟨B, 1⟩ rfl (by simp) 0 64 (by decide)
    rw [part_all B 64 hBl] at q1
    go_wp2_with fail
    refine q1.mono ?_
    rintro e w7 ⟨rfl, h7⟩
    clear q1
    have hA7 : Ar w7 p S F [⟨B, 1⟩, ⟨B, 1⟩] [] := by rw [h7]; exact hA6.alloc _
    have b7 : Below w.heap.size w w7 := by rw [h7]; exact b6.alloc b6.size _
    have s7 : Src w7 (some ⟨w6.heap.size, 0, none⟩) B := by rw [h7]; exact src_alloc w6 _ _
    have q2 := read_yes hA7 1 ⟨B, 1⟩ rfl (by simp) 0 64 (by decide)
    rw [part_all B 64 hBl] at q2
    clear h7 hA6 b6
    go_wp2_with fail
    refine q2.mono ?_
    rintro e w8 ⟨rfl, h8⟩
    clear q2
    have b8 : Below w.heap.size w w8 := by rw [h8]; exact b7.alloc b7.size _
    have s8 : Src w8 (some ⟨w7.heap.size, 0, none⟩) B := by rw [h8]; exact src_alloc w7 _ _
    have s9 : Src w8 (some ⟨w6.heap.size, 0, none⟩) B := by rw [h8]; exact s7.alloc _
    have s10 : Src w8 (some ⟨w6.heap.size, 0, none⟩) zs := by
      have := src_high s9 zs.length
      rw [show B.take zs.length = zs from hpart] at this
      exact this
    have cv1 := fun nq => conv_src (w8.drewN nq) (some ⟨w6.heap.size, 0, none⟩) B 64 64 hBl (s9.moved fun _ _ => rfl)
    have cv2 := fun nq => conv_src (w8.drewN nq) (some ⟨w7.heap.size, 0, none⟩) B 64 64 hBl (s8.moved fun _ _ => rfl)
    have cv3 := fun nq => conv_src (w8.drewN nq) (some ⟨w6.heap.size, 0, none⟩) zs zs.length 64 rfl (s10.moved fun _ _ => rfl)
    have cv4 := fun nq => conv_src (w8.drewN nq) a zs zs.length cap rfl ((hsrc.grow b8).moved fun _ _ => rfl)
    clear h8 hA7 b7 s7 s8 s9 s10 hBl hpart
    generalize w6.heap.size = g6 at *
    generalize w7.heap.size = g7 at *
    go_wp2_with fail
    go_quiet (fail)
    go_wp2
    go_ret
    exact ⟨rfl, b8.os, b8.tape, b8.output, b8.size, b8.block⟩

theorem walk_no (c : Int) (back : Bool) (a : Option Addr) (l cap : Nat) (w : World) (h : 64 < l ∨ c < 0 ∨ (l : Int) < c) :
    Calls Try.prog 7 #[.slice a l cap, .int .i64 c, .bool back] w fun e w' => e = .returned (.bool true) ∧ Below w.heap.size w w' := by
  by_cases c1 : (64 : Int) < l
  · go_enter Try.func7, Try.ntmps7
    go_wp2_with (go_at_call 9; refine (head_ok _).mono ?_; rintro e w1 ⟨rfl, hb1⟩)
    go_ret
    exact ⟨rfl, hb1⟩
  · by_cases c2 : c < 0
    · go_enter Try.func7, Try.ntmps7
      go_wp2_with (go_at_call 9; refine (head_ok _).mono ?_; rintro e w1 ⟨rfl, hb1⟩)
      go_ret
      exact ⟨rfl, hb1⟩
    · have c3 : (l : Int) < c := by omega
      go_enter Try.func7, Try.ntmps7
      go_wp2_with (go_at_call 9; refine (head_ok _).mono ?_; rintro e w1 ⟨rfl, hb1⟩)
      go_ret
      exact ⟨rfl, hb1⟩

theorem walk (a : Option Addr) (l cap : Nat) (zs : List Int) (n : Int) (back : Bool) (w : World) (hr : IsRow .u8 w a l cap zs) (wn : (Lit.int .i64 n).wf = true) :
    Calls Try.prog 7 #[.slice a l cap, .int .i64 n, .bool back] w fun e w' => e = .returned (.bool true) ∧ Below w.heap.size w w' := by
  obtain ⟨hs, hl, hcap, _⟩ := row_src hr
  by_cases c : 64 < l ∨ n < 0 ∨ (l : Int) < n
  · exact walk_no n back a l cap w c
  · obtain ⟨k, rfl⟩ : ∃ k : Nat, n = (k : Int) := ⟨n.toNat, by omega⟩
    have := walk_yes k back a cap (zs.take l) w (by omega) (by omega) (by omega) hs
    rw [hl] at this
    exact this

theorem own : ownKnob Try.prog.godebug = none := by kernel_rfl
theorem laidOut : laidOutB Try.prog = true := by kernel_rfl
set_option maxRecDepth 100000 in
theorem lifted (os : Os) (started : os.Started) (H : Type) (enc : TypeId × Value → H) :
    ReturnsInHanded {} Try.checked os 7 .any (Rows.blockPartsSpec.pre6 enc Try.prog Try.f7 Rows.blockPartsRow.domain false) (Rows.blockPartsSpec.post enc Try.prog Try.f7 false true false false) := by
  refine returnsInHanded_of_change (C := Try.checked) own started (by kernel_rfl) Try.func7
    (ChangeSpec.witness6 (enc := enc) (C := Try.checked) false ⟨#[], #[.slice none 0 0, .int .i64 0, .bool false], []⟩ 8 (by kernel_rfl) (by kernel_rfl) (by kernel_rfl) (by kernel_rfl)) ?_
  intro W base args ds gs before hval0 hW hcnd _
  have hval : ∀ (j : Nat) t v, Try.f7.params[j]? = some t → args[j]? = some v → Value.okWide Try.prog W .any base t v := hval0
  have hW' := hW
  obtain ⟨p, q, hA0, hV, rfl, hfz, hnd⟩ := hW
  have hA : DataW.TrodAll enc Try.prog W 0 (fun _ => true) true Try.f7.params.toList args.toList ds p := hA0
  rw [Try.params7] at hA hval
  obtain ⟨v0, vs0, d0, ds0, p0, q0, hargs, rfl, rfl, h0, r0⟩ := trodAll_cons hA
  obtain ⟨v1, vs1, d1, ds1, p1, q1, rfl, rfl, rfl, h1, r1⟩ := trodAll_cons r0
  obtain ⟨v2, vs2, d2, ds2, p2, q2, rfl, rfl, rfl, h2, r2⟩ := trodAll_cons r1
  obtain ⟨rfl, rfl, rfl⟩ := trodAll_nil r2
  obtain rfl : args = #[v0, v1, v2] := by cases args; simp_all
  obtain ⟨rfl, rfl⟩ := trodVars_none hV
  obtain ⟨a0, len0, cap0, rfl⟩ := okWide_slice Try.underlying30 (hval 0 30 v0 rfl rfl)
  have k0 := h0
  have lt0 : ∀ x ∈ p0, x.block < W.heap.size := by obtain ⟨m, hm⟩ := k0; exact DataW.trod_lt m _ _ _ hm
  obtain ⟨z0, w0⟩ : ∃ zs, IsRow .u8 W a0 len0 cap0 zs := by
    obtain ⟨fuel, hf⟩ := h0
    rcases open_ints Try.underlying30 Try.underlying5 (by kernel_rfl) hf with ⟨hcs, _⟩ | ⟨x, l, c, zs, hcs, _, hl, hm, hz, _, hcell, hwz⟩
    · simp [Value.cells] at hcs
      obtain ⟨rfl, rfl, rfl⟩ := hcs
      exact ⟨[], .inl ⟨rfl, rfl, rfl, rfl⟩⟩
    · simp [Value.cells] at hcs
      obtain ⟨rfl, rfl, rfl⟩ := hcs
      exact ⟨zs, .inr ⟨_, rfl, hl, hm, by simpa using hz, hcell, hwz⟩⟩
  obtain ⟨a1, rfl, rfl, rfl, w1⟩ := open_int Try.underlying3 (hval 1 3 v1 rfl rfl) h1
  obtain ⟨a2, rfl, rfl, rfl⟩ := open_bool Try.underlying4 (hval 2 4 v2 rfl rfl) h2
  clear hA0 hval0
  refine (walk a0 len0 cap0 z0 a1 a2 W w0 w1).mono fun e W' ⟨he, bel⟩ => ?_
  subst he
  exact ⟨_, rfl, _, _, _, [], _, [], hW', trodAll_mk1 (shut_bool Try.underlying4 _), (trodAll_cons_mk (Below.trod laidOut (by kernel_rfl) (of_decide_eq_true (by kernel_rfl)) k0 bel lt0) (trodAll_cons_mk (shut_int Try.underlying3 w1) (trodAll_cons_mk (shut_bool Try.underlying4 _) trodAll_mk0))), rfl, bel.frame _, fun h => by cases h⟩

theorem over : Rows.blockPartsRow.holds Try.pinned (OpenSpec.ofChange Rows.blockPartsSpec) :=
  OpenClaim.holds_of_wide 7 Try.f7 rfl rfl rfl rfl rfl rfl rfl ⟨rfl, rfl, rfl, rfl, rfl⟩ rfl rfl rfl rfl rfl (by kernel_rfl) Try.func7 (by kernel_rfl)
    (of_decide_eq_true (by kernel_rfl)) (by unfold Func.isWrapper; first | (rw [if_pos (by decide +kernel)]; kernel_rfl) | (rw [if_neg (by decide +kernel)]; exact ⟨rfl, rfl⟩))
    (fun os started H enc _ => lifted os started H enc)

end Go.Proofs.Ytpjfhfbjdcgbjaa.blockParts
namespace Go.Proofs.Ytpjfhfbjdcgbjaa
theorem blockParts_holds : Rows.BlockPartsSaid := blockParts.over
#print axioms blockParts_holds
end Go.Proofs.Ytpjfhfbjdcgbjaa
