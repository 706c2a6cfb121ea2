/-
  The law OctalFormats returns true for every number and every width; no condition.
-/
import Derived.Test.YtamdonhmholjpabRows
import Derived.Test.YtamdonhmholjpabReads
import Derived.Test.YtamdonhmholjpabRef
import Derived.ProofKit
import Derived.OpenShut
import Derived.ShutString
import Derived.ChangeOld
import Derived.Below
namespace Go.Proofs.Ytamdonhmholjpab.octalFormats
open Go.ChangeShapes Go.WideShapes Go.ChangeAt Go.RowKit
set_option linter.unusedVariables false


theorem cell_kept (W w2 : World) (cs : List Int) (hb : Below (W.alloc (.cells (row cs) 5)).heap.size (W.alloc (.cells (row cs) 5)) w2) (i : Nat) (hi : i < cs.length) :
    w2.cell? ⟨W.heap.size, 0 + i, none⟩ = some (.int .u8 (cs[i]?.getD 0)) := by
  rw [hb.cell (p := ⟨W.heap.size, 0 + i, none⟩) (by simp), Nat.zero_add, World.cell?_alloc_new, row_get cs i hi]

theorem conv_kept (W w2 : World) (cs : List Int) (k : Nat) (hk : cs.length = k) (hb : Below (W.alloc (.cells (row cs) 5)).heap.size (W.alloc (.cells (row cs) 5)) w2) :
    (convert 22 9 (.slice (some ⟨W.heap.size, 0, none⟩) k k)).run Try.prog w2 = .ok (.string (strOf cs)) w2 := by
  subst hk
  exact conv_str w2 _ 0 _ cs (cell_kept W w2 cs hb)

theorem bytes_kept (W w2 : World) (cs : List Int) (hl : cs.length ≤ 9223372036854775807) (hz : ∀ z ∈ cs, 0 ≤ z ∧ z ≤ 255) (hb : Below (W.alloc (.cells (row cs) 5)).heap.size (W.alloc (.cells (row cs) 5)) w2) :
    Bytes w2 (some ⟨W.heap.size, 0, none⟩) cs :=
  ⟨hl, .inr ⟨_, 0, rfl, cell_kept W w2 cs hb⟩, (bytes_row W cs 5 hl hz).2.2⟩

theorem field_bytes (n : Int) (m : Nat) : ∀ z ∈ octs n m ++ [0], 0 ≤ z ∧ z ≤ 255 := by
  intro z hz
  rcases List.mem_append.1 hz with h | h
  · have := octs_mem n m z h; omega
  · simp at h; omega

theorem conv_nil (w : World) : (convert 22 9 (.slice none 0 0)).run Try.prog w = .ok (.string ⟨#[]⟩) w := by
  rw [run_convert_bytes_string w 22 9 5 _ _ _ Try.underlying22 Try.underlying5 Try.underlying9]
  rfl

set_option maxHeartbeats 1000000 in
theorem walk_wide (n v : Int) (w : World) (h : v < 2 ∨ 24 < v) :
    Calls Try.prog 4 #[.int .i64 n, .int .i64 v] w fun e w' => e = .returned (.bool true) ∧ Below w.heap.size w w' := by
  have hc := conv_nil
  rcases h with h | h
  · go_enter Try.func4, Try.ntmps4
    go_wp2_with (first | (go_at_call 9; refine (reads_any _).mono ?_; rintro e w1 ⟨rfl, hb1⟩) | (go_at_call 12; refine (format_wide _ _ _ (.inl (by assumption))).mono ?_; rintro e w' ⟨rfl, rfl⟩) | (go_at_call 13; refine (ref_wide _ _ _ (.inl (by assumption))).mono ?_; rintro e w2 ⟨rfl, hb2⟩))
    go_ret
    exact ⟨rfl, hb1.trans (hb2.mono hb1.size)⟩
  · have h' : ¬ v < 2 := by omega
    go_enter Try.func4, Try.ntmps4
    go_wp2_with (first | (go_at_call 9; refine (reads_any _).mono ?_; rintro e w1 ⟨rfl, hb1⟩) | (go_at_call 12; refine (format_wide _ _ _ (.inr (by assumption))).mono ?_; rintro e w' ⟨rfl, rfl⟩) | (go_at_call 13; refine (ref_wide _ _ _ (.inr (by assumption))).mono ?_; rintro e w2 ⟨rfl, hb2⟩))
    go_ret
    exact ⟨rfl, hb1.trans (hb2.mono hb1.size)⟩

set_option maxHeartbeats 1000000 in
theorem walk_no (n : Int) (k : Nat) (w : World) (h0 : -9223372036854775808 ≤ n) (h1 : n ≤ 9223372036854775807) (k0 : 2 ≤ k) (k1 : k ≤ 24) (hf : fitsB n k = false) :
    Calls Try.prog 4 #[.int .i64 n, .int .i64 k] w fun e w' => e = .returned (.bool true) ∧ Below w.heap.size w w' := by
  have hc := conv_nil
  have g0 : (2 : Int) ≤ k := by omega
  have g1 : (k : Int) ≤ 24 := by omega
  go_enter Try.func4, Try.ntmps4
  go_wp2_with (first | (go_at_call 9; refine (reads_any _).mono ?_; rintro e w1 ⟨rfl, hb1⟩) | (go_at_call 12; refine (format_no n k _ h0 h1 g0 g1 hf).mono ?_; rintro e w' ⟨rfl, rfl⟩) | (go_at_call 13; refine (ref_no n k _ h1 k0 k1 hf).mono ?_; rintro e w2 ⟨rfl, hb2⟩) | (go_at_call 14; refine (fits_w n k _ h0 h1).mono ?_; rintro e w' ⟨rfl, rfl⟩))
  go_ret
  exact ⟨rfl, hb1.trans (hb2.mono hb1.size)⟩

set_option maxHeartbeats 1000000 in
theorem walk_yes (n : Int) (k : Nat) (w : World) (h0 : 0 ≤ n) (h1 : n ≤ 9223372036854775807) (k0 : 2 ≤ k) (k1 : k ≤ 24) (hf : fitsB n k = true) :
    Calls Try.prog 4 #[.int .i64 n, .int .i64 k] w fun e w' => e = .returned (.bool true) ∧ Below w.heap.size w w' := by
  have g0 : (2 : Int) ≤ k := by omega
  have g1 : (k : Int) ≤ 24 := by omega
  have hlen : (octs n (k - 1) ++ [0]).length = k := by simp [octs_length]; omega
  have hp : parseO (octs n (k - 1) ++ [0]) = some n := by
    obtain ⟨m, rfl⟩ : ∃ m, k = m + 2 := ⟨k - 2, by omega⟩
    have := ((fits_iff n ((m + 2 : Nat) : Int) h1 (by omega)).1 hf).2
    rw [show (((m + 2 : Nat) : Int) - 1).toNat = m + 1 by omega] at this
    exact parseO_field n m h0 this h1
  have pk : ∀ (W : World) (a : Option Addr), Bytes W a (octs n (k - 1) ++ [0]) → Calls Try.prog 10 #[.slice a k k] W fun e w' => e = .returned (.tuple #[.int .i64 n, .int .i64 0]) ∧ W = w' := by
    intro W a hB
    have := parse_w a k (octs n (k - 1) ++ [0]) W (by omega) (by omega) hB
    rw [hlen, hp] at this
    exact this
  clear hp
  go_enter Try.func4, Try.ntmps4
  go_wp2_with (first | (go_at_call 9; refine (reads_any _).mono ?_; rintro e w1 ⟨rfl, hb1⟩) | (go_at_call 12; refine (format_yes n k _ h0 h1 k0 k1 hf).mono ?_; rintro e w' ⟨rfl, rfl⟩) | (go_at_call 13; refine (ref_yes n k _ h0 h1 k0 k1 hf).mono ?_; rintro e w2 ⟨rfl, hb2⟩; have hcv := conv_kept w1 w2 _ k hlen hb2) | (go_at_call 14; refine (fits_w n k _ (by omega) h1).mono ?_; rintro e w' ⟨rfl, rfl⟩) | (go_at_call 10; refine (pk _ _ (bytes_kept w1 w2 _ (by omega) (field_bytes _ _) hb2)).mono ?_; rintro e w' ⟨rfl, rfl⟩))
  go_ret
  exact ⟨by simp, (hb1.alloc hb1.size _).trans (hb2.mono (by simp; have := hb1.size; omega))⟩

theorem walk (a b : Int) (wa : (Lit.int .i64 a).wf = true) (wb : (Lit.int .i64 b).wf = true) (w : World) :
    Calls Try.prog 4 #[.int .i64 a, .int .i64 b] w fun e w' => e = .returned (.bool true) ∧ Below w.heap.size w w' := by
  obtain ⟨h0, h1⟩ := bounds_i64 wa
  by_cases c : b < 2 ∨ 24 < b
  · exact walk_wide a b w c
  · obtain ⟨k, rfl⟩ : ∃ k : Nat, b = k := ⟨b.toNat, by omega⟩
    cases hf : fitsB a k with
    | false => exact walk_no a k w h0 h1 (by omega) (by omega) hf
    | true => exact walk_yes a k w ((fits_iff a k h1 (by omega)).1 hf).1 h1 (by omega) (by omega) hf

theorem own : ownKnob Try.prog.godebug = none := by kernel_rfl
set_option maxRecDepth 100000 in
theorem lifted (os : Os) (started : os.Started) (H : Type) (enc : TypeId × Value → H) :
    ReturnsInHanded {} Try.checked os 4 .any (Rows.octalFormatsSpec.pre6 enc Try.prog Try.f4 Rows.octalFormatsRow.domain false) (Rows.octalFormatsSpec.post enc Try.prog Try.f4 false true false false) := by
  refine returnsInHanded_of_change (C := Try.checked) own started (by kernel_rfl) Try.func4
    (ChangeSpec.witness6 (enc := enc) (C := Try.checked) false ⟨#[], #[.int .i64 0, .int .i64 0], []⟩ 8 (by kernel_rfl) (by kernel_rfl) (by kernel_rfl) (by kernel_rfl)) ?_
  intro W base args ds gs before hval0 hW hcnd _
  have hval : ∀ (j : Nat) t v, Try.f4.params[j]? = some t → args[j]? = some v → Value.okWide Try.prog W .any base t v := hval0
  have hW' := hW
  obtain ⟨p, q, hA0, hV, rfl, hfz, hnd⟩ := hW
  have hA : DataW.TrodAll enc Try.prog W 0 (fun _ => true) true Try.f4.params.toList args.toList ds p := hA0
  rw [Try.params4] at hA hval
  obtain ⟨v0, vs0, d0, ds0, p0, q0, hargs, rfl, rfl, h0, r0⟩ := trodAll_cons hA
  obtain ⟨v1, vs1, d1, ds1, p1, q1, rfl, rfl, rfl, h1, r1⟩ := trodAll_cons r0
  obtain ⟨rfl, rfl, rfl⟩ := trodAll_nil r1
  obtain rfl : args = #[v0, v1] := by cases args; simp_all
  obtain ⟨rfl, rfl⟩ := trodVars_none hV
  obtain ⟨a0, rfl, rfl, rfl, w0⟩ := open_int Try.underlying2 (hval 0 2 v0 rfl rfl) h0
  obtain ⟨a1, rfl, rfl, rfl, w1⟩ := open_int Try.underlying3 (hval 1 3 v1 rfl rfl) h1
  clear hA0 hval0
  refine (walk a0 a1 w0 w1 W).mono fun e W' ⟨he, bel⟩ => ?_
  subst he
  exact ⟨_, rfl, _, _, _, [], [], [], hW', trodAll_mk1 (shut_bool Try.underlying4 _), (trodAll_cons_mk (shut_int Try.underlying2 w0) (trodAll_cons_mk (shut_int Try.underlying3 w1) trodAll_mk0)), rfl, bel.frame _, fun h => by cases h⟩

theorem over : Rows.octalFormatsRow.holds Try.pinned (OpenSpec.ofChange Rows.octalFormatsSpec) :=
  OpenClaim.holds_of_wide 4 Try.f4 rfl rfl rfl rfl rfl rfl rfl ⟨rfl, rfl, rfl, rfl, rfl⟩ rfl rfl rfl rfl rfl (by kernel_rfl) Try.func4 (by kernel_rfl)
    (of_decide_eq_true (by kernel_rfl)) (by unfold Func.isWrapper; first | (rw [if_pos (by decide +kernel)]; kernel_rfl) | (rw [if_neg (by decide +kernel)]; exact ⟨rfl, rfl⟩))
    (fun os started H enc _ => lifted os started H enc)

end Go.Proofs.Ytamdonhmholjpab.octalFormats
namespace Go.Proofs.Ytamdonhmholjpab
theorem octalFormats_holds : Rows.OctalFormatsSaid := octalFormats.over
#print axioms octalFormats_holds
end Go.Proofs.Ytamdonhmholjpab
