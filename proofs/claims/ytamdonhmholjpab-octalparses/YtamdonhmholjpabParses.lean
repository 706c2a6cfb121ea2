/-
  The law OctalParses returns true for every slice of bytes; no condition. (Its frame is the guide's own shell.)
-/
import Derived.Test.YtamdonhmholjpabRows
import Derived.WalkKit
import Derived.Test.YtamdonhmholjpabReads
import Derived.Test.YtamdonhmholjpabRefp
import Derived.ProofKit
import Derived.OpenShut
import Derived.ShutString
import Derived.ChangeOld
import Derived.Below
namespace Go.Proofs.Ytamdonhmholjpab.octalParses
open Go.ChangeShapes Go.WideShapes Go.ChangeAt Go.RowKit
open Go.ChangeMaps (open_string shut_string)
set_option linter.unusedVariables false

theorem own : ownKnob Try.prog.godebug = none := by kernel_rfl
theorem laidOut : laidOutB Try.prog = true := by kernel_rfl

/-- WHAT THE WALK IS TOLD OF A SLICE OF INTEGERS THAT CAME IN: it is nil; or it leads to a row of 'cap' cells, the numbers 'zs' (the first 'len' are its elements, the rest its spare room), each fitting its kind. -/
def IsRow (k : IntKind) (w : World) (a : Option Addr) (len cap : Nat) (zs : List Int) : Prop :=
  (a = none ∧ len = 0 ∧ cap = 0 ∧ zs = []) ∨
  ∃ x, a = some x ∧ len ≤ cap ∧ cap ≤ maxLen ∧ zs.length = cap ∧ (∀ i, i < zs.length → w.cell? (x.add i) = some (.int k (zs.getD i 0))) ∧ ∀ n ∈ zs, (Lit.int k n).wf = true

theorem conv_bytes (w : World) (a : Option Addr) (cap : Nat) (zs : List Int) (h : Bytes w a zs) : (convert 22 9 (.slice a zs.length cap)).run Try.prog w = .ok (.string (strOf zs)) w := by
  obtain ⟨_, rfl | ⟨b, off, rfl, hc⟩, _⟩ := h
  · rw [run_convert_bytes_string w 22 9 5 _ _ _ Try.underlying22 Try.underlying5 Try.underlying9]
    cases a with
    | none => rfl
    | some x => exact run_bytesToString w x 0 cap [] rfl
  · exact conv_str w b off cap zs hc

theorem bytes_below {w w1 : World} {a : Option Addr} {zs : List Int} (h : Bytes w a zs) (hb : Below w.heap.size w w1) : Bytes w1 a zs := by
  obtain ⟨h1, h2, h3⟩ := h
  refine ⟨h1, ?_, h3⟩
  rcases h2 with h2 | ⟨b, off, rfl, hc⟩
  · exact .inl h2
  · refine .inr ⟨b, off, rfl, fun i hi => ?_⟩
    have hlt : b < w.heap.size := by
      have := hc i hi
      by_cases c : b < w.heap.size
      · exact c
      · rw [World.cell?, show w.heap[b]? = none from Array.getElem?_eq_none (Nat.le_of_not_lt c)] at this
        simp at this
    rw [hb.cell (p := ⟨b, off + i, none⟩) hlt]
    exact hc i hi

theorem of_row {w : World} {a : Option Addr} {len cap : Nat} {z : List Int} (h : IsRow .u8 w a len cap z) : Bytes w a (z.take len) ∧ (z.take len).length = len ∧ len ≤ cap ∧ cap ≤ 9223372036854775807 := by
  rcases h with ⟨rfl, rfl, rfl, rfl⟩ | ⟨x, rfl, hl, hm, hz, hcell, hwz⟩
  · exact ⟨⟨by simp, .inl rfl, fun i => by simp⟩, rfl, Nat.le_refl _, by omega⟩
  · unfold maxLen at hm
    have hlen : (z.take len).length = len := by rw [List.length_take]; omega
    refine ⟨⟨by omega, ?_, fun i => ?_⟩, hlen, hl, by omega⟩
    · by_cases h0 : len = 0
      · subst h0; exact .inl (by simp)
      · obtain ⟨b, off, spot⟩ := x
        have hc := hcell 0 (by omega)
        have hspot : spot = none := by simpa [Addr.add] using World.cell?_spot hc
        subst hspot
        refine .inr ⟨b, off, rfl, fun i hi => ?_⟩
        have hi2 : i < len := by omega
        have := hcell i (by omega)
        rw [List.getElem?_take_of_lt hi2]
        by_cases i0 : i = 0
        · subst i0; simpa [Addr.add] using this
        · simpa [Addr.add, i0] using this
    · by_cases hi : i < (z.take len).length
      · have hm := hwz ((z.take len)[i]) (List.mem_of_mem_take (List.getElem_mem hi))
        have := bounds_u8 hm
        rw [List.getElem?_eq_getElem hi]
        simpa using this
      · rw [List.getElem?_eq_none (Nat.le_of_not_lt hi)]
        simp

theorem bytes_all {w : World} {a : Option Addr} {zs : List Int} (h : Bytes w a zs) : ∀ z ∈ zs, isByte z := by
  intro z hz
  obtain ⟨i, hi, rfl⟩ := List.getElem_of_mem hz
  have := h.2.2 i
  rw [List.getElem?_eq_getElem hi] at this
  exact this

set_option maxHeartbeats 1000000 in
theorem walk_zs (a : Option Addr) (cap : Nat) (zs : List Int) (w : World) (h : Bytes w a zs) (hcap : zs.length ≤ cap) (hbig : cap ≤ 9223372036854775807) :
    Calls Try.prog 3 #[.slice a zs.length cap] w fun e w' => e = .returned (.bool true) ∧ Below w.heap.size w w' := by
  have hall : Hid (∀ z ∈ zs, isByte z) := bytes_all h
  by_cases c : 200 < zs.length
  · have c2 : (200 : Int) < zs.length := by omega
    go_enter Try.func3, Try.ntmps3
    go_wp2_with (go_at_call 9; refine (reads_any _).mono ?_; rintro e w1 ⟨rfl, hb1⟩)
    go_ret
    exact ⟨rfl, hb1⟩
  · have c2 : ¬ (200 : Int) < zs.length := by omega
    have hcv := fun w1 (h1 : Bytes w1 a zs) => conv_bytes w1 a cap zs h1
    go_enter Try.func3, Try.ntmps3
    go_wp2_with (first | (go_at_call 9; refine (reads_any _).mono ?_; rintro e w1 ⟨rfl, hb1⟩; have hB := bytes_below h hb1; have hc1 := hcv w1 hB) | (go_at_call 10; refine (parse_w a cap zs _ hcap hbig hB).mono ?_; rintro e w' ⟨rfl, rfl⟩) | (go_at_call 11; refine (refp_any zs _ hall (by omega)).mono ?_; rintro e w2 ⟨rfl, hb2⟩))
    go_ret
    exact ⟨by simp, hb1.trans (hb2.mono hb1.size)⟩

theorem walk (a0 : Option Addr) (len0 cap0 : Nat) (z0 : List Int) (w : World) (w0 : IsRow .u8 w a0 len0 cap0 z0) :
    Calls Try.prog 3 #[.slice a0 len0 cap0] w fun e w' => e = .returned (.bool true) ∧ Below w.heap.size w w' := by
  obtain ⟨hB, hlen, hcap, hbig⟩ := of_row w0
  have := walk_zs a0 cap0 (z0.take len0) w hB (by omega) hbig
  rw [hlen] at this
  exact this

/-! ### THE ROW's STEP: WRITTEN OUT: LEAVE IT -/
set_option maxRecDepth 100000 in
theorem lifted (os : Os) (started : os.Started) (H : Type) (enc : TypeId × Value → H) :
    ReturnsInHanded {} Try.checked os 3 .any (Rows.octalParsesSpec.pre6 enc Try.prog Try.f3 Rows.octalParsesRow.domain false) (Rows.octalParsesSpec.post enc Try.prog Try.f3 false true false false) := by
  refine returnsInHanded_of_change (C := Try.checked) own started (by kernel_rfl) Try.func3
    (ChangeSpec.witness6 (enc := enc) (C := Try.checked) false ⟨#[], #[.slice none 0 0], []⟩ 8 (by kernel_rfl) (by kernel_rfl) (by kernel_rfl) (by kernel_rfl)) ?_
  intro W base args ds gs before hval0 hW hcnd _
  have hval : ∀ (j : Nat) t v, Try.f3.params[j]? = some t → args[j]? = some v → Value.okWide Try.prog W .any base t v := hval0
  have hW' := hW
  obtain ⟨p, q, hA0, hV, rfl, hfz, hnd⟩ := hW
  have hA : DataW.TrodAll enc Try.prog W 0 (fun _ => true) true Try.f3.params.toList args.toList ds p := hA0
  rw [Try.params3] at hA hval
  obtain ⟨v0, vs0, d0, ds0, p0, q0, hargs, rfl, rfl, h0, r0⟩ := trodAll_cons hA
  obtain ⟨rfl, rfl, rfl⟩ := trodAll_nil r0
  obtain rfl : args = #[v0] := by cases args; simp_all
  obtain ⟨rfl, rfl⟩ := trodVars_none hV
  obtain ⟨a0, len0, cap0, rfl⟩ := okWide_slice Try.underlying22 (hval 0 22 v0 rfl rfl)
  have k0 := h0
  have lt0 : ∀ x ∈ p0, x.block < W.heap.size := by obtain ⟨m, hm⟩ := k0; exact DataW.trod_lt m _ _ _ hm
  obtain ⟨z0, w0⟩ : ∃ zs, IsRow .u8 W a0 len0 cap0 zs := by
    obtain ⟨fuel, hf⟩ := h0
    rcases open_ints Try.underlying22 Try.underlying5 (by kernel_rfl) hf with ⟨hcs, _⟩ | ⟨x, l, c, zs, hcs, _, hl, hm, hz, _, hcell, hwz⟩
    · simp [Value.cells] at hcs
      obtain ⟨rfl, rfl, rfl⟩ := hcs
      exact ⟨[], .inl ⟨rfl, rfl, rfl, rfl⟩⟩
    · simp [Value.cells] at hcs
      obtain ⟨rfl, rfl, rfl⟩ := hcs
      exact ⟨zs, .inr ⟨_, rfl, hl, hm, by simpa using hz, hcell, hwz⟩⟩
  clear hA0 hval0
  refine (walk a0 len0 cap0 z0 W w0).mono fun e W' ⟨he, bel⟩ => ?_
  subst he
  exact ⟨_, rfl, _, _, _, [], _, [], hW', trodAll_mk1 (shut_bool Try.underlying4 _), (trodAll_cons_mk (Below.trod laidOut (by kernel_rfl) (of_decide_eq_true (by kernel_rfl)) k0 bel lt0) trodAll_mk0), rfl, bel.frame _, fun h => by cases h⟩

theorem over : Rows.octalParsesRow.holds Try.pinned (OpenSpec.ofChange Rows.octalParsesSpec) :=
  OpenClaim.holds_of_wide 3 Try.f3 rfl rfl rfl rfl rfl rfl rfl ⟨rfl, rfl, rfl, rfl, rfl⟩ rfl rfl rfl rfl rfl (by kernel_rfl) Try.func3 (by kernel_rfl)
    (of_decide_eq_true (by kernel_rfl)) (by unfold Func.isWrapper; first | (rw [if_pos (by decide +kernel)]; kernel_rfl) | (rw [if_neg (by decide +kernel)]; exact ⟨rfl, rfl⟩))
    (fun os started H enc _ => lifted os started H enc)

end Go.Proofs.Ytamdonhmholjpab.octalParses
namespace Go.Proofs.Ytamdonhmholjpab
theorem octalParses_holds : Rows.OctalParsesSaid := octalParses.over
#print axioms octalParses_holds
end Go.Proofs.Ytamdonhmholjpab
