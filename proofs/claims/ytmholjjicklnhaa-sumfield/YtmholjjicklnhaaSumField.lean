/-
  The law SumField returns true for every bytes, every number and every count of blanks; no condition.
-/
import Derived.Test.YtmholjjicklnhaaRows
import Derived.Test.YtmholjjicklnhaaCopied
import Derived.ProofKit
import Derived.OpenShut
import Derived.ShutString
import Derived.ChangeOld
import Derived.Below
namespace Go.Proofs.Ytmholjjicklnhaa.sumField
open Go.ChangeShapes Go.WideShapes Go.ChangeAt Go.RowKit
set_option linter.unusedVariables false
set_option linter.unusedSimpArgs false


def bl8 (zs : List Int) (k : Nat) : List Int := zs.take 148 ++ List.replicate k 32 ++ zs.drop (148 + k)
def fd (zs : List Int) (bl m : Nat) (T : List Int) : List Int := zs.take 148 ++ List.replicate (bl + m) 32 ++ T ++ List.replicate (2 - bl) 32 ++ zs.drop 156

theorem bl8_length (zs : List Int) (h : zs.length = 512) (k : Nat) (hk : k ≤ 8) : (bl8 zs k).length = 512 := by
  unfold bl8
  rw [List.length_append, List.length_append, List.length_take, List.length_drop, List.length_replicate, h]
  omega

theorem bl8_set (zs : List Int) (h : zs.length = 512) (k : Nat) (hk : k < 8) : (bl8 zs k).set (148 + k) 32 = bl8 zs (k + 1) := by
  unfold bl8
  have l : (zs.take 148).length = 148 := by rw [List.length_take]; omega
  have e : zs.drop (148 + k) = zs[148 + k] :: zs.drop (148 + (k + 1)) := List.drop_eq_getElem_cons (by omega)
  rw [e, List.append_assoc, List.set_append_right _ _ (by omega), l, List.set_append_right _ _ (by rw [List.length_replicate]; omega), List.length_replicate, show 148 + k - 148 - k = 0 by omega, List.set_cons_zero, List.replicate_succ', List.append_assoc, List.append_assoc]
  rfl

theorem fd_start (zs : List Int) (bl : Nat) (h : bl ≤ 2) : bl8 zs 8 = fd zs bl 6 [] := by
  unfold bl8 fd
  rw [List.append_nil, List.append_assoc (zs.take 148), List.append_assoc (zs.take 148), List.append_assoc (zs.take 148), List.replicate_append_replicate, show bl + 6 + (2 - bl) = 8 by omega]

theorem fd_length (zs : List Int) (h : zs.length = 512) (bl m : Nat) (T : List Int) (hb : bl ≤ 2) (hm : m ≤ 6) (hT : T.length = 6 - m) : (fd zs bl m T).length = 512 := by
  unfold fd
  rw [List.length_append, List.length_append, List.length_append, List.length_append, List.length_take, List.length_drop, List.length_replicate, List.length_replicate, hT, h]
  omega

theorem fd_set (zs : List Int) (h : zs.length = 512) (bl m : Nat) (T : List Int) (v : Int) : (fd zs bl (m + 1) T).set (148 + bl + m) v = fd zs bl m (v :: T) := by
  unfold fd
  have l : (zs.take 148).length = 148 := by rw [List.length_take]; omega
  rw [List.append_assoc, List.append_assoc, List.append_assoc, List.set_append_right _ _ (by omega), l, show 148 + bl + m - 148 = bl + m by omega, show bl + (m + 1) = (bl + m) + 1 by omega, List.replicate_succ', List.append_assoc, List.set_append_right _ _ (by rw [List.length_replicate]; omega), List.length_replicate, Nat.sub_self]
  simp

theorem fd_end (zs : List Int) (bl : Nat) (n : Int) : fd zs bl 0 (octs n 6) = putL zs (fieldF n bl) := by
  unfold fd putL fieldF
  simp

theorem rightO_some (n p s : Int) : rightO (some n) p s = (decide (n = p) || decide (n = s)) := rfl

set_option maxRecDepth 100000 in
set_option maxHeartbeats 4000000 in
theorem walk_yes (ad : Addr) (cap : Nat) (zs : List Int) (n : Int) (bl : Nat) (w : World) (hb : Hid (AllB zs)) (hl : Hid (zs.length = 512)) (hs : Src w (some ad) zs) (hn0 : 0 ≤ n) (hn1 : n ≤ 262143) (hbl : bl ≤ 2) :
    Calls Try.prog 7 #[.slice (some ad) 512 cap, .int .i64 n, .int .i64 (bl : Int)] w fun e w' => e = .returned (.bool true) ∧ Below w.heap.size w w' := by
  have hbl' : (bl : Int) ≤ 2 := by omega
  have hn1' : ¬ (262143 : Int) < n := by omega
  go_enter Try.func7, Try.ntmps7
  go_wp2_with fail
  refine (head_ok w).mono ?_
  rintro e w1 ⟨rfl, hb1⟩
  have hs1 := hs.grow hb1
  go_wp2_with (at_builtin; refine wpList_copied (W := w1) rfl _ _ rfl rfl ad 512 cap zs hl.out rfl hs1 (by omega) ?_)
  intro g c' w2 hc1 hc2 o2
  have hs2 := hs1.grow o2.below
  have q1 := plain_w ad cap zs w2 hb (by rw [hl.out]; omega) hs2
  rw [hl.out] at q1
  go_wp2_with fail
  refine q1.mono ?_
  rintro e w2' ⟨rfl, rfl⟩
  clear q1
  have h0 : Own w1 w2 g (bl8 zs 0) := by have : bl8 zs 0 = zs := by simp [bl8]
                                         rw [this]; exact o2
  have adl : ad.block < w1.heap.size := hs1.lt (by rw [hl.out]; omega)
  have hlen := bl8_length zs hl
  have hset := bl8_set zs hl
  clear o2 hs hs2
  go_wp2_with fail
  go_loopw [38] (fun x wr => ∃ k : Nat, k ≤ 8 ∧ x = .int .i64 (k : Int) ∧ Own w1 wr g (bl8 zs k)) (fun x _ => 8 - (intOf x).toNat)
  case atStart => exact ⟨0, by omega, rfl, h0⟩
  case round =>
    clear h0
    obtain ⟨k, hk, rfl, o⟩ := hrel
    by_cases hlt : k < 8
    · have l0 := hlen k hk
      have a1 := o.cell (148 + k) (by omega)
      have a2 := o.frozen (148 + k)
      have o' := o.set (148 + k) (by omega) 32
      rw [hset k hlt] at o'
      have ht : ((148 : Int) + (k : Int)).toNat = 148 + k := by omega
      generalize (bl8 zs k)[148 + k]?.getD 0 = z at *
      clear o hs1 hlen hset l0
      go_wp2
      go_roundw
      case rel => exact ⟨k + 1, by omega, by go_num, o'⟩
      case measure => simp [intOf]; omega
    · obtain rfl : k = 8 := by omega
      rw [fd_start zs bl hbl] at o
      clear hlen hset
      have hlen := fun m T => fd_length zs hl bl m T hbl
      have hset := fun m T => fd_set zs hl bl m T
      go_wp2_with fail
      go_loopw [10, 11] (fun tn ti wr => ∃ (m : Nat) (x : Int) (T : List Int), m ≤ 6 ∧ 0 ≤ x ∧ x ≤ 262143 ∧ ti = .int .i64 ((m : Int) - 1) ∧ tn = .int .i64 x ∧ T.length = 6 - m ∧ Hid (octs x m ++ T = octs n 6) ∧ Own w1 wr g (fd zs bl m T))
        (fun _ i _ => (intOf i + 1).toNat)
      case atStart => exact ⟨6, n, [], by omega, hn0, by omega, rfl, rfl, rfl, by simp [Hid], o⟩
      case round =>
        clear o
        obtain ⟨m, x, T, hm, hx0, hx1, rfl, rfl, hT, H, o⟩ := hrel
        cases m with
        | zero =>
          obtain rfl : T = octs n 6 := by have := H.out; simpa [octs] using this
          rw [fd_end zs bl n] at o
          have s5 := hs1.grow o.below
          have q1 := right_yes ⟨g, 0, none⟩ c' _ wr (putL_allB zs _ hb (fieldF_allB n bl)) (putL_length zs _ hl (fieldF_length n bl hbl)) hc1 hc2 o.src
          rw [right_putL zs _ hl (fieldF_length n bl hbl), parseO_fieldF n bl hbl hn0 (by omega), rightO_some] at q1
          have q2 := signed_w ad cap zs wr hb (by rw [hl.out]; omega) s5
          rw [hl.out] at q2
          have b5 := hb1.trans (o.below.mono hb1.size)
          have bd1 := plain_bound zs hb
          have bd2 := signed_bound zs hb
          rw [hl.out] at bd1 bd2
          clear o s5 hs1 hlen hset hb hl H hT
          generalize plainS zs = p at *
          generalize signedS zs = sn at *
          go_wp2_with fail
          refine q1.mono ?_
          rintro e w' ⟨rfl, rfl⟩
          by_cases c1 : n = p
          · subst c1
            go_wp2
            go_ret
            exact ⟨by simp, b5⟩
          · go_wp2_with fail
            refine q2.mono ?_
            rintro e w' ⟨rfl, rfl⟩
            go_wp2
            go_ret
            exact ⟨by by_cases c2 : n = sn <;> simp [c1, c2], b5⟩
        | succ j =>
          have e1 : ((j + 1 : Nat) : Int) - 1 = (j : Int) := by omega
          rw [e1]
          have l0 := hlen (j + 1) T hm hT
          have a1 := o.cell (148 + bl + j) (by omega)
          have a2 := o.frozen (148 + bl + j)
          have o3 := o.set (148 + bl + j) (by omega) (48 + x % 8)
          rw [hset j T] at o3
          have t1 : x.tmod 8 = x % 8 := Int.tmod_eq_emod_of_nonneg hx0
          have t2 : x.tdiv 8 = x / 8 := Int.tdiv_eq_ediv_of_nonneg hx0
          have hx8 : 0 ≤ x % 8 ∧ x % 8 < 8 := by omega
          have ht : ((148 : Int) + (bl : Int) + (j : Int)).toNat = 148 + bl + j := by omega
          generalize (fd zs bl (j + 1) T)[148 + bl + j]?.getD 0 = z at *
          clear o hlen hset hs1 l0
          go_wp2
          go_roundw
          case rel => exact ⟨j, x / 8, (48 + x % 8) :: T, by omega, by omega, by omega, by go_num, rfl, by simp; omega, by rw [← H.out]; simp [octs, Hid], o3⟩
          case measure => simp [intOf]

theorem walk_no (a : Option Addr) (l cap : Nat) (n bl : Int) (w : World) (wn : -9223372036854775808 ≤ n ∧ n ≤ 9223372036854775807) (wb : -9223372036854775808 ≤ bl ∧ bl ≤ 9223372036854775807) (hl : l ≤ 9223372036854775807) (h : l ≠ 512 ∨ n < 0 ∨ 262143 < n ∨ bl < 0 ∨ 2 < bl) :
    Calls Try.prog 7 #[.slice a l cap, .int .i64 n, .int .i64 bl] w fun e w' => e = .returned (.bool true) ∧ Below w.heap.size w w' := by
  by_cases c1 : (l : Int) = 512
  · obtain rfl : l = 512 := by omega
    by_cases c2 : n < 0
    · go_enter Try.func7, Try.ntmps7
      go_wp2_with (go_at_call 9; refine (head_ok _).mono ?_; rintro e w1 ⟨rfl, hb1⟩)
      go_ret
      exact ⟨rfl, hb1⟩
    · by_cases c3 : 262143 < n
      · go_enter Try.func7, Try.ntmps7
        go_wp2_with (go_at_call 9; refine (head_ok _).mono ?_; rintro e w1 ⟨rfl, hb1⟩)
        go_ret
        exact ⟨rfl, hb1⟩
      · by_cases c4 : bl < 0
        · go_enter Try.func7, Try.ntmps7
          go_wp2_with (go_at_call 9; refine (head_ok _).mono ?_; rintro e w1 ⟨rfl, hb1⟩)
          go_ret
          exact ⟨rfl, hb1⟩
        · have c5 : 2 < bl := by omega
          go_enter Try.func7, Try.ntmps7
          go_wp2_with (go_at_call 9; refine (head_ok _).mono ?_; rintro e w1 ⟨rfl, hb1⟩)
          go_ret
          exact ⟨rfl, hb1⟩
  · go_enter Try.func7, Try.ntmps7
    go_wp2_with (go_at_call 9; refine (head_ok _).mono ?_; rintro e w1 ⟨rfl, hb1⟩)
    go_ret
    exact ⟨rfl, hb1⟩

theorem walk (a : Option Addr) (l cap : Nat) (zs : List Int) (n bl : Int) (w : World) (hr : IsRow .u8 w a l cap zs) (wn : (Lit.int .i64 n).wf = true) (wb : (Lit.int .i64 bl).wf = true) :
    Calls Try.prog 7 #[.slice a l cap, .int .i64 n, .int .i64 bl] w fun e w' => e = .returned (.bool true) ∧ Below w.heap.size w w' := by
  obtain ⟨hs, hl, hcap, hmax, hall, hnone⟩ := row_src hr
  by_cases c : l ≠ 512 ∨ n < 0 ∨ 262143 < n ∨ bl < 0 ∨ 2 < bl
  · exact walk_no a l cap n bl w (bounds_i64 wn) (bounds_i64 wb) (by omega) c
  · obtain rfl : l = 512 := by omega
    obtain ⟨j, rfl⟩ : ∃ j : Nat, bl = (j : Int) := ⟨bl.toNat, by omega⟩
    cases a with
    | none => have := hnone rfl; omega
    | some ad => exact walk_yes ad cap _ n j w hall hl hs (by omega) (by omega) (by omega)

theorem own : ownKnob Try.prog.godebug = none := by kernel_rfl
theorem laidOut : laidOutB Try.prog = true := by kernel_rfl
set_option maxRecDepth 100000 in
theorem lifted (os : Os) (started : os.Started) (H : Type) (enc : TypeId × Value → H) :
    ReturnsInHanded {} Try.checked os 7 .any (Rows.sumFieldSpec.pre6 enc Try.prog Try.f7 Rows.sumFieldRow.domain false) (Rows.sumFieldSpec.post enc Try.prog Try.f7 false true false false) := by
  refine returnsInHanded_of_change (C := Try.checked) own started (by kernel_rfl) Try.func7
    (ChangeSpec.witness6 (enc := enc) (C := Try.checked) false ⟨#[], #[.slice none 0 0, .int .i64 0, .int .i64 0], []⟩ 8 (by kernel_rfl) (by kernel_rfl) (by kernel_rfl) (by kernel_rfl)) ?_
  intro W base args ds gs before hval0 hW hcnd _
  have hval : ∀ (j : Nat) t v, Try.f7.params[j]? = some t → args[j]? = some v → Value.okWide Try.prog W .any base t v := hval0
  have hW' := hW
  obtain ⟨p, q, hA0, hV, rfl, hfz, hnd⟩ := hW
  have hA : DataW.TrodAll enc Try.prog W 0 (fun _ => true) true Try.f7.params.toList args.toList ds p := hA0
  rw [Try.params7] at hA hval
  obtain ⟨v0, vs0, d0, ds0, p0, q0, hargs, rfl, rfl, h0, r0⟩ := trodAll_cons hA
  obtain ⟨v1, vs1, d1, ds1, p1, q1, rfl, rfl, rfl, h1, r1⟩ := trodAll_cons r0
  obtain ⟨v2, vs2, d2, ds2, p2, q2, rfl, rfl, rfl, h2, r2⟩ := trodAll_cons r1
  obtain ⟨rfl, rfl, rfl⟩ := trodAll_nil r2
  obtain rfl : args = #[v0, v1, v2] := by cases args; simp_all
  obtain ⟨rfl, rfl⟩ := trodVars_none hV
  obtain ⟨a0, len0, cap0, rfl⟩ := okWide_slice Try.underlying22 (hval 0 22 v0 rfl rfl)
  have k0 := h0
  have lt0 : ∀ x ∈ p0, x.block < W.heap.size := by obtain ⟨m, hm⟩ := k0; exact DataW.trod_lt m _ _ _ hm
  obtain ⟨z0, w0⟩ : ∃ zs, IsRow .u8 W a0 len0 cap0 zs := by
    obtain ⟨fuel, hf⟩ := h0
    rcases open_ints Try.underlying22 Try.underlying5 (by kernel_rfl) hf with ⟨hcs, _⟩ | ⟨x, l, c, zs, hcs, _, hl, hm, hz, _, hcell, hwz⟩
    · simp [Value.cells] at hcs
      obtain ⟨rfl, rfl, rfl⟩ := hcs
      exact ⟨[], .inl ⟨rfl, rfl, rfl, rfl⟩⟩
    · simp [Value.cells] at hcs
      obtain ⟨rfl, rfl, rfl⟩ := hcs
      exact ⟨zs, .inr ⟨_, rfl, hl, hm, by simpa using hz, hcell, hwz⟩⟩
  obtain ⟨a1, rfl, rfl, rfl, w1⟩ := open_int Try.underlying3 (hval 1 3 v1 rfl rfl) h1
  obtain ⟨a2, rfl, rfl, rfl, w2⟩ := open_int Try.underlying3 (hval 2 3 v2 rfl rfl) h2
  clear hA0 hval0
  refine (walk a0 len0 cap0 z0 a1 a2 W w0 w1 w2).mono fun e W' ⟨he, bel⟩ => ?_
  subst he
  exact ⟨_, rfl, _, _, _, [], _, [], hW', trodAll_mk1 (shut_bool Try.underlying4 _), (trodAll_cons_mk (Below.trod laidOut (by kernel_rfl) (of_decide_eq_true (by kernel_rfl)) k0 bel lt0) (trodAll_cons_mk (shut_int Try.underlying3 w1) (trodAll_cons_mk (shut_int Try.underlying3 w2) trodAll_mk0))), rfl, bel.frame _, fun h => by cases h⟩

theorem over : Rows.sumFieldRow.holds Try.pinned (OpenSpec.ofChange Rows.sumFieldSpec) :=
  OpenClaim.holds_of_wide 7 Try.f7 rfl rfl rfl rfl rfl rfl rfl ⟨rfl, rfl, rfl, rfl, rfl⟩ rfl rfl rfl rfl rfl (by kernel_rfl) Try.func7 (by kernel_rfl)
    (of_decide_eq_true (by kernel_rfl)) (by unfold Func.isWrapper; first | (rw [if_pos (by decide +kernel)]; kernel_rfl) | (rw [if_neg (by decide +kernel)]; exact ⟨rfl, rfl⟩))
    (fun os started H enc _ => lifted os started H enc)

end Go.Proofs.Ytmholjjicklnhaa.sumField
namespace Go.Proofs.Ytmholjjicklnhaa
theorem sumField_holds : Rows.SumFieldSaid := sumField.over
#print axioms sumField_holds
end Go.Proofs.Ytmholjjicklnhaa
