/-
  The law WholeStore returns true for every number of blocks and every script; no condition.
-/
import Derived.Test.YtpjfhfbjdcgbjacRows
import Derived.Test.YtpjfhfbjdcgbjacWsw
import Derived.Deep.Slices
import Derived.ProofKit
import Derived.OpenShut
import Derived.ShutString
import Derived.ChangeOld
import Derived.Below
namespace Go.Proofs.Ytpjfhfbjdcgbjac.wholeStore
open Go.ChangeShapes Go.WideShapes Go.ChangeAt Go.RowKit
set_option linter.unusedVariables false
set_option linter.unusedSimpArgs false

/-- the script that came in -/
def IsScr (w : World) (a : Option Addr) (n cap : Nat) (Z : Nat → Nat → Int) : Prop := n ≤ 9223372036854775807 ∧ Scr w a n Z

theorem walk (n : Int) (a : Option Addr) (l cap : Nat) (Z : Nat → Nat → Int) (w : World) (wn : (Lit.int .i64 n).wf = true) (hk : IsScr w a l cap Z) :
    Calls Try.prog 3 #[.int .i64 n, .slice a l cap] w fun e w' => e = .returned (.bool true) ∧ Below w.heap.size w w' := by
  by_cases c : n < 0 ∨ 100 < n ∨ 60 < l
  · exact walk_no n a l cap w c hk.1
  · obtain ⟨k, rfl⟩ : ∃ k : Nat, n = (k : Int) := ⟨n.toNat, by omega⟩
    exact walk_yes k a l cap Z w (by omega) (by omega) hk.2

theorem cells_at {w : World} {base : Nat} {a : Addr} {n : Nat} {cs : List Value} (h : w.cells? base a n = some cs) : cs.length = n ∧ ∀ j, j < n → w.cell? (a.add j) = cs[j]? := (World.cells?_some h).2

theorem scr_of {H : Type} {enc : TypeId × Value → H} {W : World} {a : Option Addr} {n cap : Nat} {d : DataW H} {p : List MemPlace} (h : DataW.Trod enc Try.prog W 0 (fun _ => true) true 22 (.slice a n cap) d p) : ∃ Z, IsScr W a n cap Z := by
  obtain ⟨fuel, hf⟩ := h
  have hu : Try.prog.underlying 22 = some (.slice 35) := by kernel_rfl
  have hu2 : Try.prog.underlying 35 = some (.array 3 3) := by kernel_rfl
  have hc3 : Try.prog.cellsOf 35 = 3 := by kernel_rfl
  have k3 : Try.prog.cellsOf 3 = 1 := by kernel_rfl
  rcases Go.Deep.open_slice hu hf with ⟨hcs, _⟩ | ⟨x, len, cp, m, nn, D, Pl, hcs, hb, hl, hm, hmm, hx, hcell⟩
  · simp [Value.cells] at hcs
    obtain ⟨rfl, rfl, rfl⟩ := hcs
    exact ⟨fun _ _ => 0, by omega, fun r hr => by omega⟩
  · simp [Value.cells] at hcs
    obtain ⟨rfl, rfl, rfl⟩ := hcs
    simp at hmm
    subst hmm
    have each : ∀ i, i < m → ∃ q : Int × Int × Int, W.cell? (x.add (i * 3)) = some (.int .i64 q.1) ∧ W.cell? ((x.add (i * 3)).add 1) = some (.int .i64 q.2.1) ∧ W.cell? ((x.add (i * 3)).add 2) = some (.int .i64 q.2.2) ∧ (Lit.int .i64 q.1).wf = true ∧ (Lit.int .i64 q.2.1).wf = true ∧ (Lit.int .i64 q.2.2).wf = true := by
      intro i hi
      obtain ⟨cs, h1, h2⟩ := hcell i hi
      rw [hc3] at h1
      obtain ⟨hl3, hget⟩ := cells_at h1
      obtain ⟨xs, m', _, hx0, _, hl', hall⟩ := DataW.trod_array hu2 h2
      match cs, hl3, xs, hl' with
      | [v0, v1, v2], _, [y0, y1, y2], _ =>
        have e0 := hall 0 (by decide)
        have e1 := hall 1 (by decide)
        have e2 := hall 2 (by decide)
        simp [k3] at e0 e1 e2
        obtain ⟨z0, f0, _, w0⟩ := DataW.trod_int Try.underlying3 e0
        obtain ⟨z1, f1, _, w1⟩ := DataW.trod_int Try.underlying3 e1
        obtain ⟨z2, f2, _, w2⟩ := DataW.trod_int Try.underlying3 e2
        have g0 := hget 0 (by decide)
        have g1 := hget 1 (by decide)
        have g2 := hget 2 (by decide)
        simp at f0 f1 f2
        subst f0 f1 f2
        refine ⟨(z0, z1, z2), ?_, by simpa using g1, by simpa using g2, w0, w1, w2⟩
        simpa [Addr.add] using g0
    obtain ⟨q, hq⟩ := Go.Deep.choose_lt each
    refine ⟨fun r t => match t with | 0 => (q r).1 | 1 => (q r).2.1 | _ => (q r).2.2, by unfold maxLen at hm; omega, fun r hr => ?_⟩
    obtain ⟨b, off, spot⟩ := x
    obtain ⟨c0, c1, c2, w0, w1, w2⟩ := hq r (by omega)
    have hspot : spot = none := by
      have h0 := (hq 0 (by omega)).1
      simpa [Addr.add] using World.cell?_spot h0
    subst hspot
    refine ⟨b, off, rfl, ?_, ?_, ?_, fun t => ?_⟩
    · by_cases r0 : r = 0
      · subst r0; simpa [Addr.add] using c0
      · have : ¬ r * 3 = 0 := by omega
        simpa [Addr.add, this] using c0
    · by_cases r0 : r = 0
      · subst r0; simpa [Addr.add] using c1
      · have : ¬ r * 3 = 0 := by omega
        simpa [Addr.add, this] using c1
    · by_cases r0 : r = 0
      · subst r0; simpa [Addr.add] using c2
      · have : ¬ r * 3 = 0 := by omega
        simpa [Addr.add, this] using c2
    · match t with
      | 0 => exact bounds_i64 w0
      | 1 => exact bounds_i64 w1
      | t + 2 => exact bounds_i64 w2

theorem own : ownKnob Try.prog.godebug = none := by kernel_rfl
theorem laidOut : laidOutB Try.prog = true := by kernel_rfl
set_option maxRecDepth 100000 in
theorem lifted (os : Os) (started : os.Started) (H : Type) (enc : TypeId × Value → H) :
    ReturnsInHanded {} Try.checked os 3 .any (Rows.wholeStoreSpec.pre6 enc Try.prog Try.f3 Rows.wholeStoreRow.domain false) (Rows.wholeStoreSpec.post enc Try.prog Try.f3 false true false false) := by
  refine returnsInHanded_of_change (C := Try.checked) own started (by kernel_rfl) Try.func3
    (ChangeSpec.witness6 (enc := enc) (C := Try.checked) false ⟨#[], #[.int .i64 0, .slice none 0 0], []⟩ 8 (by kernel_rfl) (by kernel_rfl) (by kernel_rfl) (by kernel_rfl)) ?_
  intro W base args ds gs before hval0 hW hcnd _
  have hval : ∀ (j : Nat) t v, Try.f3.params[j]? = some t → args[j]? = some v → Value.okWide Try.prog W .any base t v := hval0
  have hW' := hW
  obtain ⟨p, q, hA0, hV, rfl, hfz, hnd⟩ := hW
  have hA : DataW.TrodAll enc Try.prog W 0 (fun _ => true) true Try.f3.params.toList args.toList ds p := hA0
  rw [Try.params3] at hA hval
  obtain ⟨v0, vs0, d0, ds0, p0, q0, hargs, rfl, rfl, h0, r0⟩ := trodAll_cons hA
  obtain ⟨v1, vs1, d1, ds1, p1, q1, rfl, rfl, rfl, h1, r1⟩ := trodAll_cons r0
  obtain ⟨rfl, rfl, rfl⟩ := trodAll_nil r1
  obtain rfl : args = #[v0, v1] := by cases args; simp_all
  obtain ⟨rfl, rfl⟩ := trodVars_none hV
  obtain ⟨a0, rfl, rfl, rfl, w0⟩ := open_int Try.underlying3 (hval 0 3 v0 rfl rfl) h0
  obtain ⟨a1, len1, cap1, rfl⟩ := okWide_slice Try.underlying22 (hval 1 22 v1 rfl rfl)
  have k1 := h1
  have lt1 : ∀ x ∈ p1, x.block < W.heap.size := by obtain ⟨m, hm⟩ := k1; exact DataW.trod_lt m _ _ _ hm
  obtain ⟨Z1, w1⟩ := scr_of h1
  clear hA0 hval0
  refine (walk a0 a1 len1 cap1 Z1 W w0 w1).mono fun e W' ⟨he, bel⟩ => ?_
  subst he
  exact ⟨_, rfl, _, _, _, [], _, [], hW', trodAll_mk1 (shut_bool Try.underlying4 _), (trodAll_cons_mk (shut_int Try.underlying3 w0) (trodAll_cons_mk (Below.trod laidOut (by kernel_rfl) (of_decide_eq_true (by kernel_rfl)) k1 bel lt1) trodAll_mk0)), rfl, bel.frame _, fun h => by cases h⟩

theorem over : Rows.wholeStoreRow.holds Try.pinned (OpenSpec.ofChange Rows.wholeStoreSpec) :=
  OpenClaim.holds_of_wide 3 Try.f3 rfl rfl rfl rfl rfl rfl rfl ⟨rfl, rfl, rfl, rfl, rfl⟩ rfl rfl rfl rfl rfl (by kernel_rfl) Try.func3 (by kernel_rfl)
    (of_decide_eq_true (by kernel_rfl)) (by unfold Func.isWrapper; first | (rw [if_pos (by decide +kernel)]; kernel_rfl) | (rw [if_neg (by decide +kernel)]; exact ⟨rfl, rfl⟩))
    (fun os started H enc _ => lifted os started H enc)

end Go.Proofs.Ytpjfhfbjdcgbjac.wholeStore
namespace Go.Proofs.Ytpjfhfbjdcgbjac
theorem wholeStore_holds : Rows.WholeStoreSaid := wholeStore.over
#print axioms wholeStore_holds
end Go.Proofs.Ytpjfhfbjdcgbjac
