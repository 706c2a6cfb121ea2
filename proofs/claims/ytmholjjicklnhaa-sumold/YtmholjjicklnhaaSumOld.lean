/-
  The law SumOld returns true for every bytes; no condition.
-/
import Derived.Test.YtmholjjicklnhaaRows
import Derived.Test.YtmholjjicklnhaaCopied
import Derived.ProofKit
import Derived.OpenShut
import Derived.ShutString
import Derived.ChangeOld
import Derived.Below
namespace Go.Proofs.Ytmholjjicklnhaa.sumOld
open Go.ChangeShapes Go.WideShapes Go.ChangeAt Go.RowKit
set_option linter.unusedVariables false
set_option linter.unusedSimpArgs false


def dl (zs : List Int) (m : Nat) (T : List Int) : List Int := zs.take (148 + m) ++ T ++ zs.drop 154

theorem dl_length (zs : List Int) (h : zs.length = 512) (m : Nat) (T : List Int) (hm : m ≤ 6) (hT : T.length = 6 - m) : (dl zs m T).length = 512 := by
  unfold dl
  rw [List.length_append, List.length_append, List.length_take, List.length_drop, hT, h]
  omega

theorem dl_set (zs : List Int) (h : zs.length = 512) (m : Nat) (T : List Int) (hm : m < 6) (v : Int) : (dl zs (m + 1) T).set (148 + m) v = dl zs m (v :: T) := by
  unfold dl
  have e : zs.take (148 + (m + 1)) = zs.take (148 + m) ++ [zs[148 + m]] := by
    rw [show 148 + (m + 1) = (148 + m) + 1 by omega, List.take_succ_eq_append_getElem (by omega)]
  have l : (zs.take (148 + m)).length = 148 + m := by rw [List.length_take]; omega
  rw [e, List.append_assoc, List.append_assoc, List.append_assoc, List.set_append_right _ _ (by omega), l, Nat.sub_self]
  simp

theorem dl_end (zs : List Int) (h : zs.length = 512) (n : Int) : ((dl zs 0 (octs n 6)).set 154 0).set 155 32 = putL zs (endF n) := by
  unfold dl putL endF
  have l : (zs.take (148 + 0)).length = 148 := by rw [List.length_take]; omega
  have l6 := octs_length n 6
  have e1 : zs.drop 154 = zs[154] :: zs[155] :: zs.drop 156 := by
    rw [List.drop_eq_getElem_cons (by omega), List.drop_eq_getElem_cons (i := 154 + 1) (by omega)]
  rw [e1, List.append_assoc, List.set_append_right _ _ (by omega), List.set_append_right _ _ (by omega), l, List.set_append_right _ _ (by omega), List.set_append_right _ _ (by omega), l6]
  simp
  rw [e1]
  rfl

set_option maxRecDepth 100000 in
set_option maxHeartbeats 2000000 in
theorem walk_yes (ad : Addr) (cap : Nat) (zs : List Int) (w : World) (hb : Hid (AllB zs)) (hl : Hid (zs.length = 512)) (hs : Src w (some ad) zs) (hn : 0 ≤ signedS zs) :
    Calls Try.prog 5 #[.slice (some ad) 512 cap] w fun e w' => e = .returned (.bool true) ∧ Below w.heap.size w w' := by
  have hsb := signed_bound zs hb
  rw [hl.out] at hsb
  go_enter Try.func5, Try.ntmps5
  go_wp2_with fail
  refine (head_ok w).mono ?_
  rintro e w1 ⟨rfl, hb1⟩
  have hs1 := hs.grow hb1
  have q1 := signed_w ad cap zs w1 hb (by have := hl.out; omega) hs1
  rw [hl.out] at q1
  go_wp2_with fail
  refine q1.mono ?_
  rintro e w1' ⟨rfl, rfl⟩
  clear q1
  have hN : Hid (rightB (putL zs (endF (signedS zs))) = true) := by
    show _ = _
    rw [right_putL zs _ hl (endF_length _), parseO_endF _ hn (by omega)]
    simp [rightO]
  have hlen := dl_length zs hl
  have hset := dl_set zs hl
  have hend := dl_end zs hl
  have hdl : Hid (dl zs 6 [] = zs) := by simp [Hid, dl]
  have hall : ∀ n, AllB (putL zs (endF n)) := fun n => putL_allB zs _ hb (endF_allB n)
  have hlp : ∀ n, (putL zs (endF n)).length = 512 := fun n => putL_length zs _ hl (endF_length n)
  generalize signedS zs = N at *
  go_wp2_with (at_builtin; refine wpList_copied (W := w1) rfl _ _ rfl rfl ad 512 cap zs hl.out rfl hs1 (by omega) ?_)
  intro g c' w2 hc1 hc2 o2
  rw [← hdl.out] at o2
  clear hdl hs hs1
  go_wp2
  go_loopw [3, 5] (fun tn ti wr => ∃ (m : Nat) (x : Int) (T : List Int), m ≤ 6 ∧ 0 ≤ x ∧ x ≤ 65024 ∧ ti = .int .i64 ((147 + m : Nat) : Int) ∧ tn = .int .i64 x ∧ T.length = 6 - m ∧ Hid (octs x m ++ T = octs N 6) ∧ Own w1 wr g (dl zs m T))
    (fun _ i _ => (intOf i - 147).toNat)
  case atStart => exact ⟨6, N, [], by omega, hn, by omega, rfl, rfl, rfl, by simp [Hid], o2⟩
  case round =>
    clear o2
    obtain ⟨m, x, T, hm, hx0, hx1, rfl, rfl, hT, H, o⟩ := hrel
    cases m with
    | zero =>
      obtain rfl : T = octs N 6 := by have := H.out; simpa [octs] using this
      have l0 := hlen 0 (octs N 6) (by omega) (by simp [octs_length])
      have a1 := o.cell 154 (by omega)
      have a2 := o.frozen 154
      have o3 := o.set 154 (by omega) 0
      have a3 := o3.cell 155 (by rw [List.length_set]; omega)
      have a4 := o3.frozen 155
      have o4 := o3.set 155 (by rw [List.length_set]; omega) 32
      rw [hend N] at o4
      generalize hw2 : wr.setCell ⟨g, 154, none⟩ (.int .u8 0) = wr2 at *
      generalize hw3 : wr2.setCell ⟨g, 155, none⟩ (.int .u8 32) = wr3 at *
      have q := right_yes ⟨g, 0, none⟩ c' (putL zs (endF N)) wr3 (hall N) (hlp N) hc1 hc2 o4.src
      rw [hN.out] at q
      have b4 := hb1.trans (o4.below.mono hb1.size)
      clear o o3 o4 hlen hset hend hall hlp hN H hT l0
      go_wp2_with fail
      refine q.mono ?_
      rintro e w' ⟨rfl, rfl⟩
      go_wp2
      go_ret
      exact ⟨rfl, b4⟩
    | succ j =>
      have e1 : (147 + (j + 1) : Nat) = 148 + j := by omega
      rw [e1]
      have l0 := hlen (j + 1) T hm hT
      have a1 := o.cell (148 + j) (by omega)
      have a2 := o.frozen (148 + j)
      have o3 := o.set (148 + j) (by omega) (48 + x % 8)
      rw [hset j T (by omega)] at o3
      have t1 : x.tmod 8 = x % 8 := Int.tmod_eq_emod_of_nonneg hx0
      have t2 : x.tdiv 8 = x / 8 := Int.tdiv_eq_ediv_of_nonneg hx0
      have hx8 : 0 ≤ x % 8 ∧ x % 8 < 8 := by omega
      clear o hlen hset hend hall hlp hN
      go_wp2
      go_roundw
      case rel => exact ⟨j, x / 8, (48 + x % 8) :: T, by omega, by omega, by omega, by go_num, rfl, by simp; omega, by rw [← H.out]; simp [octs, Hid], o3⟩
      case measure => simp [intOf]; omega

theorem walk_minus (ad : Addr) (cap : Nat) (zs : List Int) (w : World) (hb : Hid (AllB zs)) (hl : Hid (zs.length = 512)) (hs : Src w (some ad) zs) (hn : signedS zs < 0) :
    Calls Try.prog 5 #[.slice (some ad) 512 cap] w fun e w' => e = .returned (.bool true) ∧ Below w.heap.size w w' := by
  go_enter Try.func5, Try.ntmps5
  go_wp2_with fail
  refine (head_ok w).mono ?_
  rintro e w1 ⟨rfl, hb1⟩
  have hs1 := hs.grow hb1
  have q1 := signed_w ad cap zs w1 hb (by have := hl.out; omega) hs1
  rw [hl.out] at q1
  go_wp2_with fail
  refine q1.mono ?_
  rintro e w1' ⟨rfl, rfl⟩
  clear q1 hs1 hs
  generalize signedS zs = N at *
  go_wp2
  go_ret
  exact ⟨rfl, hb1⟩

theorem walk_no (a : Option Addr) (n cap : Nat) (w : World) (h : n ≠ 512) (h1 : n ≤ 9223372036854775807) :
    Calls Try.prog 5 #[.slice a n cap] w fun e w' => e = .returned (.bool true) ∧ Below w.heap.size w w' := by
  have h2 : ¬ (n : Int) = 512 := by omega
  go_enter Try.func5, Try.ntmps5
  go_wp2_with (go_at_call 9; refine (head_ok _).mono ?_; rintro e w1 ⟨rfl, hb1⟩)
  go_ret
  exact ⟨rfl, hb1⟩

theorem walk (a : Option Addr) (l cap : Nat) (zs : List Int) (w : World) (hr : IsRow .u8 w a l cap zs) :
    Calls Try.prog 5 #[.slice a l cap] w fun e w' => e = .returned (.bool true) ∧ Below w.heap.size w w' := by
  obtain ⟨hs, hl, hcap, hmax, hall, hnone⟩ := row_src hr
  by_cases c : l = 512
  · subst c
    cases a with
    | none => have := hnone rfl; omega
    | some ad =>
      by_cases hn : 0 ≤ signedS (zs.take 512)
      · exact walk_yes ad cap _ w hall hl hs hn
      · exact walk_minus ad cap _ w hall hl hs (by omega)
  · exact walk_no a l cap w c (by omega)

theorem own : ownKnob Try.prog.godebug = none := by kernel_rfl
theorem laidOut : laidOutB Try.prog = true := by kernel_rfl
set_option maxRecDepth 100000 in
theorem lifted (os : Os) (started : os.Started) (H : Type) (enc : TypeId × Value → H) :
    ReturnsInHanded {} Try.checked os 5 .any (Rows.sumOldSpec.pre6 enc Try.prog Try.f5 Rows.sumOldRow.domain false) (Rows.sumOldSpec.post enc Try.prog Try.f5 false true false false) := by
  refine returnsInHanded_of_change (C := Try.checked) own started (by kernel_rfl) Try.func5
    (ChangeSpec.witness6 (enc := enc) (C := Try.checked) false ⟨#[], #[.slice none 0 0], []⟩ 8 (by kernel_rfl) (by kernel_rfl) (by kernel_rfl) (by kernel_rfl)) ?_
  intro W base args ds gs before hval0 hW hcnd _
  have hval : ∀ (j : Nat) t v, Try.f5.params[j]? = some t → args[j]? = some v → Value.okWide Try.prog W .any base t v := hval0
  have hW' := hW
  obtain ⟨p, q, hA0, hV, rfl, hfz, hnd⟩ := hW
  have hA : DataW.TrodAll enc Try.prog W 0 (fun _ => true) true Try.f5.params.toList args.toList ds p := hA0
  rw [Try.params5] at hA hval
  obtain ⟨v0, vs0, d0, ds0, p0, q0, hargs, rfl, rfl, h0, r0⟩ := trodAll_cons hA
  obtain ⟨rfl, rfl, rfl⟩ := trodAll_nil r0
  obtain rfl : args = #[v0] := by cases args; simp_all
  obtain ⟨rfl, rfl⟩ := trodVars_none hV
  obtain ⟨a0, len0, cap0, rfl⟩ := okWide_slice Try.underlying22 (hval 0 22 v0 rfl rfl)
  have k0 := h0
  have lt0 : ∀ x ∈ p0, x.block < W.heap.size := by obtain ⟨m, hm⟩ := k0; exact DataW.trod_lt m _ _ _ hm
  obtain ⟨z0, w0⟩ : ∃ zs, IsRow .u8 W a0 len0 cap0 zs := by
    obtain ⟨fuel, hf⟩ := h0
    rcases open_ints Try.underlying22 Try.underlying5 (by kernel_rfl) hf with ⟨hcs, _⟩ | ⟨x, l, c, zs, hcs, _, hl, hm, hz, _, hcell, hwz⟩
    · simp [Value.cells] at hcs
      obtain ⟨rfl, rfl, rfl⟩ := hcs
      exact ⟨[], .inl ⟨rfl, rfl, rfl, rfl⟩⟩
    · simp [Value.cells] at hcs
      obtain ⟨rfl, rfl, rfl⟩ := hcs
      exact ⟨zs, .inr ⟨_, rfl, hl, hm, by simpa using hz, hcell, hwz⟩⟩
  clear hA0 hval0
  refine (walk a0 len0 cap0 z0 W w0).mono fun e W' ⟨he, bel⟩ => ?_
  subst he
  exact ⟨_, rfl, _, _, _, [], _, [], hW', trodAll_mk1 (shut_bool Try.underlying4 _), (trodAll_cons_mk (Below.trod laidOut (by kernel_rfl) (of_decide_eq_true (by kernel_rfl)) k0 bel lt0) trodAll_mk0), rfl, bel.frame _, fun h => by cases h⟩

theorem over : Rows.sumOldRow.holds Try.pinned (OpenSpec.ofChange Rows.sumOldSpec) :=
  OpenClaim.holds_of_wide 5 Try.f5 rfl rfl rfl rfl rfl rfl rfl ⟨rfl, rfl, rfl, rfl, rfl⟩ rfl rfl rfl rfl rfl (by kernel_rfl) Try.func5 (by kernel_rfl)
    (of_decide_eq_true (by kernel_rfl)) (by unfold Func.isWrapper; first | (rw [if_pos (by decide +kernel)]; kernel_rfl) | (rw [if_neg (by decide +kernel)]; exact ⟨rfl, rfl⟩))
    (fun os started H enc _ => lifted os started H enc)

end Go.Proofs.Ytmholjjicklnhaa.sumOld
namespace Go.Proofs.Ytmholjjicklnhaa
theorem sumOld_holds : Rows.SumOldSaid := sumOld.over
#print axioms sumOld_holds
end Go.Proofs.Ytmholjjicklnhaa
