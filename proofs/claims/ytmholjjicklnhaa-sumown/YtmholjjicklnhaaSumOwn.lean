/-
  The law SumOwn returns true for every bytes; no condition.
-/
import Derived.Test.YtmholjjicklnhaaRows
import Derived.Test.YtmholjjicklnhaaCopied
import Derived.ProofKit
import Derived.OpenShut
import Derived.ShutString
import Derived.ChangeOld
import Derived.Below
namespace Go.Proofs.Ytmholjjicklnhaa.sumOwn
open Go.ChangeShapes Go.WideShapes Go.ChangeAt Go.RowKit
set_option linter.unusedVariables false
set_option linter.unusedSimpArgs false


/-- the row g2 is 512 bytes, whichever; all else is as in w4 -/
def Else (w2 w4 wr : World) (g2 : Nat) : Prop := (∃ L : List Int, L.length = 512 ∧ Own w2 wr g2 L) ∧ ∀ k, k ≠ g2 → wr.heap[k]? = w4.heap[k]?

set_option maxRecDepth 100000 in
set_option maxHeartbeats 2000000 in
theorem walk_yes (ad : Addr) (cap : Nat) (zs : List Int) (w : World) (hb : Hid (AllB zs)) (hl : Hid (zs.length = 512)) (hs : Src w (some ad) zs) :
    Calls Try.prog 8 #[.slice (some ad) 512 cap] w fun e w' => e = .returned (.bool true) ∧ Below w.heap.size w w' := by
  go_enter Try.func8, Try.ntmps8
  go_wp2_with fail
  refine (head_ok w).mono ?_
  rintro e w1 ⟨rfl, hb1⟩
  have hs1 := hs.grow hb1
  go_wp2_with (at_builtin; refine wpList_copied (W := w1) rfl _ _ rfl rfl ad 512 cap zs hl.out rfl hs1 (by omega) ?_)
  intro g c' w2 hc1 hc2 o2
  have q := seal_yes ⟨g, 0, none⟩ c' zs w2 hb hl o2.src
  go_wp2_with fail
  refine q.mono ?_
  rintro e w3 ⟨g2, rfl, o3⟩
  clear q
  have hs2 := hs1.grow o2.below
  have hs3 := hs2.grow o3.below
  have m3 := o2.src.grow o3.below
  have cv1 := conv_src w3 _ zs 512 c' hl m3
  have cv2 := conv_src w3 _ zs 512 cap hl hs3
  have q := seal_yes ⟨g2, 0, none⟩ 512 (sealL zs) w3 (sealL_allB _ hb) (sealL_length _ hl) o3.src
  go_wp2_with fail
  refine q.mono ?_
  rintro e w4 ⟨g3, rfl, o4⟩
  clear q cv1 cv2
  have hs4 := hs3.grow o4.below
  have m4 := m3.grow o4.below
  have n1 : ad.block ≠ g2 := by have := hs2.lt (by rw [hl.out]; omega); have := o3.ge; omega
  have n2 : g ≠ g2 := by have := o2.lt; have := o3.ge; omega
  have n3 : g3 ≠ g2 := by have := o3.lt; have := o4.ge; omega
  have hE : Else w2 w4 w4 g2 := ⟨⟨sealL zs, sealL_length _ hl, o3.grow o4.below⟩, fun _ _ => rfl⟩
  have t4 := o4.src
  have b2 := hb1.trans (o2.below.mono hb1.size)
  clear o2 o3 o4 hs1 hs2 hs3 m3
  go_wp2_with fail
  go_loopw [34] (fun x wr => ∃ m : Nat, m ≤ 512 ∧ x = .int .i64 (m : Int) ∧ Else w2 w4 wr g2) (fun x _ => 512 - (intOf x).toNat)
  case atStart => exact ⟨0, by omega, rfl, hE⟩
  case round =>
    clear hE
    obtain ⟨m, hm, rfl, ⟨L, hL, o⟩, hoth⟩ := hrel
    by_cases hlt : m < 512
    · have a1 := o.cell m (by omega)
      have a2 := o.frozen m
      have o' := o.set m (by omega) 0
      have hoth' : ∀ k, k ≠ g2 → (wr.setCell ⟨g2, m, none⟩ (.int .u8 0)).heap[k]? = w4.heap[k]? := fun k hk => by
        rw [Below.heap_setCell _ _ _ _ hk]; exact hoth k hk
      clear o hoth hs4 m4 t4 hs
      go_wp2
      go_roundw
      case rel => exact ⟨m + 1, by omega, by go_num, ⟨_, by rw [List.length_set]; exact hL, o'⟩, hoth'⟩
      case measure => simp [intOf]; omega
    · obtain rfl : m = 512 := by omega
      have s5 := hs4.moved (w' := wr) fun a e => by cases e; exact hoth _ n1
      have m5 := m4.moved (w' := wr) fun a e => by cases e; exact hoth _ n2
      have t5 := t4.moved (w' := wr) fun a e => by cases e; exact hoth _ n3
      have cv1 := conv_src wr _ zs 512 c' hl m5
      have cv2 := conv_src wr _ zs 512 cap hl s5
      have lS := sealL_length zs hl
      have aS := sealL_allB zs hb
      have q1 := right_yes ⟨g3, 0, none⟩ 512 (sealL (sealL zs)) wr (sealL_allB _ aS) (sealL_length _ lS) (by omega) (by omega) t5
      rw [sealL_right _ lS aS] at q1
      have q2 := plain_w ⟨g3, 0, none⟩ 512 (sealL (sealL zs)) wr (sealL_allB _ aS) (by rw [sealL_length _ lS]; omega) t5
      rw [sealL_length _ lS, (sealL_sums _ lS).1, (sealL_sums _ hl.out).1] at q2
      have q3 := plain_w ad cap zs wr hb (by rw [hl.out]; omega) s5
      rw [hl.out] at q3
      have b5 := b2.trans (o.below.mono b2.size)
      clear o hoth s5 m5 t5 hs4 m4 t4 hs lS aS hL
      generalize plainS zs = p at *
      generalize strOf zs = S at *
      clear hb hl
      go_wp2_with fail
      refine q1.mono ?_
      rintro e w' ⟨rfl, rfl⟩
      go_wp2_with fail
      refine q2.mono ?_
      rintro e w' ⟨rfl, rfl⟩
      go_wp2_with fail
      refine q3.mono ?_
      rintro e w' ⟨rfl, rfl⟩
      go_wp2
      go_ret
      exact ⟨by simp, b5⟩

theorem walk_no (a : Option Addr) (n cap : Nat) (w : World) (h : n ≠ 512) (h1 : n ≤ 9223372036854775807) :
    Calls Try.prog 8 #[.slice a n cap] w fun e w' => e = .returned (.bool true) ∧ Below w.heap.size w w' := by
  have h2 : ¬ (n : Int) = 512 := by omega
  go_enter Try.func8, Try.ntmps8
  go_wp2_with (go_at_call 9; refine (head_ok _).mono ?_; rintro e w1 ⟨rfl, hb1⟩)
  go_ret
  exact ⟨rfl, hb1⟩

theorem walk (a : Option Addr) (l cap : Nat) (zs : List Int) (w : World) (hr : IsRow .u8 w a l cap zs) :
    Calls Try.prog 8 #[.slice a l cap] w fun e w' => e = .returned (.bool true) ∧ Below w.heap.size w w' := by
  obtain ⟨hs, hl, hcap, hmax, hall, hnone⟩ := row_src hr
  by_cases c : l = 512
  · subst c
    cases a with
    | none => have := hnone rfl; omega
    | some ad => exact walk_yes ad cap _ w hall hl hs
  · exact walk_no a l cap w c (by omega)

theorem own : ownKnob Try.prog.godebug = none := by kernel_rfl
theorem laidOut : laidOutB Try.prog = true := by kernel_rfl
set_option maxRecDepth 100000 in
theorem lifted (os : Os) (started : os.Started) (H : Type) (enc : TypeId × Value → H) :
    ReturnsInHanded {} Try.checked os 8 .any (Rows.sumOwnSpec.pre6 enc Try.prog Try.f8 Rows.sumOwnRow.domain false) (Rows.sumOwnSpec.post enc Try.prog Try.f8 false true false false) := by
  refine returnsInHanded_of_change (C := Try.checked) own started (by kernel_rfl) Try.func8
    (ChangeSpec.witness6 (enc := enc) (C := Try.checked) false ⟨#[], #[.slice none 0 0], []⟩ 8 (by kernel_rfl) (by kernel_rfl) (by kernel_rfl) (by kernel_rfl)) ?_
  intro W base args ds gs before hval0 hW hcnd _
  have hval : ∀ (j : Nat) t v, Try.f8.params[j]? = some t → args[j]? = some v → Value.okWide Try.prog W .any base t v := hval0
  have hW' := hW
  obtain ⟨p, q, hA0, hV, rfl, hfz, hnd⟩ := hW
  have hA : DataW.TrodAll enc Try.prog W 0 (fun _ => true) true Try.f8.params.toList args.toList ds p := hA0
  rw [Try.params8] at hA hval
  obtain ⟨v0, vs0, d0, ds0, p0, q0, hargs, rfl, rfl, h0, r0⟩ := trodAll_cons hA
  obtain ⟨rfl, rfl, rfl⟩ := trodAll_nil r0
  obtain rfl : args = #[v0] := by cases args; simp_all
  obtain ⟨rfl, rfl⟩ := trodVars_none hV
  obtain ⟨a0, len0, cap0, rfl⟩ := okWide_slice Try.underlying22 (hval 0 22 v0 rfl rfl)
  have k0 := h0
  have lt0 : ∀ x ∈ p0, x.block < W.heap.size := by obtain ⟨m, hm⟩ := k0; exact DataW.trod_lt m _ _ _ hm
  obtain ⟨z0, w0⟩ : ∃ zs, IsRow .u8 W a0 len0 cap0 zs := by
    obtain ⟨fuel, hf⟩ := h0
    rcases open_ints Try.underlying22 Try.underlying5 (by kernel_rfl) hf with ⟨hcs, _⟩ | ⟨x, l, c, zs, hcs, _, hl, hm, hz, _, hcell, hwz⟩
    · simp [Value.cells] at hcs
      obtain ⟨rfl, rfl, rfl⟩ := hcs
      exact ⟨[], .inl ⟨rfl, rfl, rfl, rfl⟩⟩
    · simp [Value.cells] at hcs
      obtain ⟨rfl, rfl, rfl⟩ := hcs
      exact ⟨zs, .inr ⟨_, rfl, hl, hm, by simpa using hz, hcell, hwz⟩⟩
  clear hA0 hval0
  refine (walk a0 len0 cap0 z0 W w0).mono fun e W' ⟨he, bel⟩ => ?_
  subst he
  exact ⟨_, rfl, _, _, _, [], _, [], hW', trodAll_mk1 (shut_bool Try.underlying4 _), (trodAll_cons_mk (Below.trod laidOut (by kernel_rfl) (of_decide_eq_true (by kernel_rfl)) k0 bel lt0) trodAll_mk0), rfl, bel.frame _, fun h => by cases h⟩

theorem over : Rows.sumOwnRow.holds Try.pinned (OpenSpec.ofChange Rows.sumOwnSpec) :=
  OpenClaim.holds_of_wide 8 Try.f8 rfl rfl rfl rfl rfl rfl rfl ⟨rfl, rfl, rfl, rfl, rfl⟩ rfl rfl rfl rfl rfl (by kernel_rfl) Try.func8 (by kernel_rfl)
    (of_decide_eq_true (by kernel_rfl)) (by unfold Func.isWrapper; first | (rw [if_pos (by decide +kernel)]; kernel_rfl) | (rw [if_neg (by decide +kernel)]; exact ⟨rfl, rfl⟩))
    (fun os started H enc _ => lifted os started H enc)

end Go.Proofs.Ytmholjjicklnhaa.sumOwn
namespace Go.Proofs.Ytmholjjicklnhaa
theorem sumOwn_holds : Rows.SumOwnSaid := sumOwn.over
#print axioms sumOwn_holds
end Go.Proofs.Ytmholjjicklnhaa
