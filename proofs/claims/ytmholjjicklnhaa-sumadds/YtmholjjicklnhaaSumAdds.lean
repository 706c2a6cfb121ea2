/-
  The law SumAdds returns true for every bytes, every place and every byte; no condition.
-/
import Derived.Test.YtmholjjicklnhaaRows
import Derived.Test.YtmholjjicklnhaaCopied
import Derived.ProofKit
import Derived.OpenShut
import Derived.ShutString
import Derived.ChangeOld
import Derived.Below
namespace Go.Proofs.Ytmholjjicklnhaa.sumAdds
open Go.ChangeShapes Go.WideShapes Go.ChangeAt Go.RowKit
set_option linter.unusedVariables false
set_option linter.unusedSimpArgs false


theorem set_plain (zs : List Int) (k : Nat) (v : Int) (hk : k < zs.length) (hf : ¬ (148 ≤ k ∧ k < 156)) : plainS (zs.set k v) = plainS zs + (v - zs[k]?.getD 0) := by
  have := addF_set idt zs 0 k v hk
  simp only [Nat.zero_add, cntAt, idt, if_neg hf] at this
  exact this

theorem set_field (zs : List Int) (k : Nat) (v : Int) (hf : 148 ≤ k ∧ k < 156) : plainS (zs.set k v) = plainS zs ∧ signedS (zs.set k v) = signedS zs :=
  sums_same _ _ (by simp) fun j hj => by rw [List.getElem?_set_ne (by omega)]

theorem allB_set (zs : List Int) (h : AllB zs) (k : Nat) (v : Int) (hv : 0 ≤ v ∧ v ≤ 255) : AllB (zs.set k v) := by
  intro z hz
  rcases List.mem_or_eq_of_mem_set hz with h1 | rfl
  · exact h z h1
  · exact hv

theorem byte_at (zs : List Int) (h : AllB zs) (k : Nat) : 0 ≤ zs[k]?.getD 0 ∧ zs[k]?.getD 0 ≤ 255 := by
  by_cases c : k < zs.length
  · simp only [List.getElem?_eq_getElem c, Option.getD_some]; exact h _ (List.getElem_mem c)
  · simp [c]


set_option maxRecDepth 100000 in
set_option maxHeartbeats 2000000 in
theorem walk_in (ad : Addr) (cap : Nat) (zs : List Int) (k : Nat) (more : Int) (w : World) (hb : Hid (AllB zs)) (hl : zs.length ≤ 2000) (hk : k < zs.length) (hm : 0 ≤ more ∧ more ≤ 255) (z : Int) (hzz : Hid (zs[k]?.getD 0 = z)) (hz : z ≤ 255 - more) (hs : Src w (some ad) zs) (h1 : 148 ≤ k) (h2 : k < 156) :
    Calls Try.prog 6 #[.slice (some ad) zs.length cap, .int .i64 (k : Int), .int .u8 more] w fun e w' => e = .returned (.bool true) ∧ Below w.heap.size w w' := by
  go_enter Try.func6, Try.ntmps6
  go_wp2_with fail
  refine (head_ok w).mono ?_
  rintro e w1 ⟨rfl, hb1⟩
  have hs1 := hs.grow hb1
  have ce := hs1.cell k hk
  have zb := byte_at zs hb k
  rw [hzz.out] at ce zb
  go_wp2_with (at_builtin; refine wpList_copied (W := w1) rfl _ _ rfl rfl ad zs.length cap zs rfl rfl hs1 hl ?_)
  intro g c' w2 hc1 hc2 o2
  have a1 := o2.cell k hk
  rw [hzz.out] at a1
  have a2 := o2.frozen k
  have o3 := o2.set k hk (z + more)
  have hT : Hid (AllB (zs.set k (z + more))) := allB_set zs hb k _ (by omega)
  have hTl : (zs.set k (z + more)).length = zs.length := by rw [List.length_set]
  obtain ⟨e1, e2⟩ := set_field zs k (z + more) ⟨h1, h2⟩
  clear hzz
  generalize zs.set k (z + more) = T at *
  generalize hw3 : w2.setCell ⟨g, k, none⟩ (.int .u8 (z + more)) = w3 at *
  have s3 := hs1.grow o3.below
  have p1 := plain_w ad cap zs w3 hb hl s3
  have p2 := signed_w ad cap zs w3 hb hl s3
  have p3 := plain_w ⟨g, 0, none⟩ c' T w3 hT (by omega) o3.src
  have p4 := signed_w ⟨g, 0, none⟩ c' T w3 hT (by omega) o3.src
  rw [hTl] at p3 p4
  have b3 := hb1.trans (o3.below.mono hb1.size)
  have bd1 := plain_bound zs hb
  have bd2 := plain_bound T hT
  have bd3 := signed_bound T hT
  rw [hTl] at bd2 bd3
  clear o2 o3 s3 hs hs1 hT hTl hb
  generalize hpz : plainS zs = pz at *
  generalize signedS zs = sz at *
  generalize plainS T = pt at *
  generalize signedS T = st at *
  go_wp2_with fail
  refine p1.mono ?_
  rintro e w' ⟨rfl, rfl⟩
  go_wp2_with fail
  refine p3.mono ?_
  rintro e w' ⟨rfl, rfl⟩
  go_wp2_with fail
  refine p1.mono ?_
  rintro e w' ⟨rfl, rfl⟩
  go_wp2_with fail
  refine p4.mono ?_
  rintro e w' ⟨rfl, rfl⟩
  go_wp2_with fail
  refine p2.mono ?_
  rintro e w' ⟨rfl, rfl⟩
  go_wp2
  go_ret
  exact ⟨by simp [e1, e2], b3⟩


set_option maxRecDepth 100000 in
set_option maxHeartbeats 2000000 in
theorem walk_low (ad : Addr) (cap : Nat) (zs : List Int) (k : Nat) (more : Int) (w : World) (hb : Hid (AllB zs)) (hl : zs.length ≤ 2000) (hk : k < zs.length) (hm : 0 ≤ more ∧ more ≤ 255) (z : Int) (hzz : Hid (zs[k]?.getD 0 = z)) (hz : z ≤ 255 - more) (hs : Src w (some ad) zs) (h1 : k < 148) :
    Calls Try.prog 6 #[.slice (some ad) zs.length cap, .int .i64 (k : Int), .int .u8 more] w fun e w' => e = .returned (.bool true) ∧ Below w.heap.size w w' := by
  go_enter Try.func6, Try.ntmps6
  go_wp2_with fail
  refine (head_ok w).mono ?_
  rintro e w1 ⟨rfl, hb1⟩
  have hs1 := hs.grow hb1
  have ce := hs1.cell k hk
  have zb := byte_at zs hb k
  rw [hzz.out] at ce zb
  go_wp2_with (at_builtin; refine wpList_copied (W := w1) rfl _ _ rfl rfl ad zs.length cap zs rfl rfl hs1 hl ?_)
  intro g c' w2 hc1 hc2 o2
  have a1 := o2.cell k hk
  rw [hzz.out] at a1
  have a2 := o2.frozen k
  have o3 := o2.set k hk (z + more)
  have hT : Hid (AllB (zs.set k (z + more))) := allB_set zs hb k _ (by omega)
  have hTl : (zs.set k (z + more)).length = zs.length := by rw [List.length_set]
  have e1 := set_plain zs k (z + more) hk (by omega)
  rw [hzz.out] at e1
  obtain ⟨m, e2⟩ := apart _ hT
  have e3 : (plainS (zs.set k (z + more)) - signedS (zs.set k (z + more))).tmod 256 = 0 := by
    rw [e2, show signedS (zs.set k (z + more)) + 256 * (m : Int) - signedS (zs.set k (z + more)) = 256 * (m : Int) by omega]
    exact Int.mul_tmod_right 256 m
  clear hzz
  generalize zs.set k (z + more) = T at *
  generalize hw3 : w2.setCell ⟨g, k, none⟩ (.int .u8 (z + more)) = w3 at *
  have s3 := hs1.grow o3.below
  have p1 := plain_w ad cap zs w3 hb hl s3
  have p2 := signed_w ad cap zs w3 hb hl s3
  have p3 := plain_w ⟨g, 0, none⟩ c' T w3 hT (by omega) o3.src
  have p4 := signed_w ⟨g, 0, none⟩ c' T w3 hT (by omega) o3.src
  rw [hTl] at p3 p4
  have b3 := hb1.trans (o3.below.mono hb1.size)
  have bd1 := plain_bound zs hb
  have bd2 := plain_bound T hT
  have bd3 := signed_bound T hT
  rw [hTl] at bd2 bd3
  clear o2 o3 s3 hs hs1 hT hTl hb
  generalize hpz : plainS zs = pz at *
  generalize signedS zs = sz at *
  generalize plainS T = pt at *
  generalize signedS T = st at *
  go_wp2_with fail
  refine p1.mono ?_
  rintro e w' ⟨rfl, rfl⟩
  go_wp2_with fail
  refine p3.mono ?_
  rintro e w' ⟨rfl, rfl⟩
  go_wp2_with fail
  refine p3.mono ?_
  rintro e w' ⟨rfl, rfl⟩
  go_wp2_with fail
  refine p4.mono ?_
  rintro e w' ⟨rfl, rfl⟩
  go_wp2_with fail
  refine p4.mono ?_
  rintro e w' ⟨rfl, rfl⟩
  go_wp2_with fail
  refine p3.mono ?_
  rintro e w' ⟨rfl, rfl⟩
  go_wp2
  go_ret
  exact ⟨by simp; omega, b3⟩


set_option maxRecDepth 100000 in
set_option maxHeartbeats 2000000 in
theorem walk_up (ad : Addr) (cap : Nat) (zs : List Int) (k : Nat) (more : Int) (w : World) (hb : Hid (AllB zs)) (hl : zs.length ≤ 2000) (hk : k < zs.length) (hm : 0 ≤ more ∧ more ≤ 255) (z : Int) (hzz : Hid (zs[k]?.getD 0 = z)) (hz : z ≤ 255 - more) (hs : Src w (some ad) zs) (h1 : 156 ≤ k) :
    Calls Try.prog 6 #[.slice (some ad) zs.length cap, .int .i64 (k : Int), .int .u8 more] w fun e w' => e = .returned (.bool true) ∧ Below w.heap.size w w' := by
  go_enter Try.func6, Try.ntmps6
  go_wp2_with fail
  refine (head_ok w).mono ?_
  rintro e w1 ⟨rfl, hb1⟩
  have hs1 := hs.grow hb1
  have ce := hs1.cell k hk
  have zb := byte_at zs hb k
  rw [hzz.out] at ce zb
  go_wp2_with (at_builtin; refine wpList_copied (W := w1) rfl _ _ rfl rfl ad zs.length cap zs rfl rfl hs1 hl ?_)
  intro g c' w2 hc1 hc2 o2
  have a1 := o2.cell k hk
  rw [hzz.out] at a1
  have a2 := o2.frozen k
  have o3 := o2.set k hk (z + more)
  have hT : Hid (AllB (zs.set k (z + more))) := allB_set zs hb k _ (by omega)
  have hTl : (zs.set k (z + more)).length = zs.length := by rw [List.length_set]
  have e1 := set_plain zs k (z + more) hk (by omega)
  rw [hzz.out] at e1
  obtain ⟨m, e2⟩ := apart _ hT
  have e3 : (plainS (zs.set k (z + more)) - signedS (zs.set k (z + more))).tmod 256 = 0 := by
    rw [e2, show signedS (zs.set k (z + more)) + 256 * (m : Int) - signedS (zs.set k (z + more)) = 256 * (m : Int) by omega]
    exact Int.mul_tmod_right 256 m
  clear hzz
  generalize zs.set k (z + more) = T at *
  generalize hw3 : w2.setCell ⟨g, k, none⟩ (.int .u8 (z + more)) = w3 at *
  have s3 := hs1.grow o3.below
  have p1 := plain_w ad cap zs w3 hb hl s3
  have p2 := signed_w ad cap zs w3 hb hl s3
  have p3 := plain_w ⟨g, 0, none⟩ c' T w3 hT (by omega) o3.src
  have p4 := signed_w ⟨g, 0, none⟩ c' T w3 hT (by omega) o3.src
  rw [hTl] at p3 p4
  have b3 := hb1.trans (o3.below.mono hb1.size)
  have bd1 := plain_bound zs hb
  have bd2 := plain_bound T hT
  have bd3 := signed_bound T hT
  rw [hTl] at bd2 bd3
  clear o2 o3 s3 hs hs1 hT hTl hb
  generalize hpz : plainS zs = pz at *
  generalize signedS zs = sz at *
  generalize plainS T = pt at *
  generalize signedS T = st at *
  go_wp2_with fail
  refine p1.mono ?_
  rintro e w' ⟨rfl, rfl⟩
  go_wp2_with fail
  refine p3.mono ?_
  rintro e w' ⟨rfl, rfl⟩
  go_wp2_with fail
  refine p3.mono ?_
  rintro e w' ⟨rfl, rfl⟩
  go_wp2_with fail
  refine p4.mono ?_
  rintro e w' ⟨rfl, rfl⟩
  go_wp2_with fail
  refine p4.mono ?_
  rintro e w' ⟨rfl, rfl⟩
  go_wp2_with fail
  refine p3.mono ?_
  rintro e w' ⟨rfl, rfl⟩
  go_wp2
  go_ret
  exact ⟨by simp; omega, b3⟩


theorem walk_no (a : Option Addr) (l cap : Nat) (k more : Int) (w : World) (wk : -9223372036854775808 ≤ k ∧ k ≤ 9223372036854775807) (hl : l ≤ 9223372036854775807) (h : 2000 < l ∨ k < 0 ∨ (l : Int) ≤ k) :
    Calls Try.prog 6 #[.slice a l cap, .int .i64 k, .int .u8 more] w fun e w' => e = .returned (.bool true) ∧ Below w.heap.size w w' := by
  by_cases c1 : (2000 : Int) < (l : Int)
  · go_enter Try.func6, Try.ntmps6
    go_wp2_with (go_at_call 9; refine (head_ok _).mono ?_; rintro e w1 ⟨rfl, hb1⟩)
    go_ret
    exact ⟨rfl, hb1⟩
  · by_cases c2 : k < 0
    · go_enter Try.func6, Try.ntmps6
      go_wp2_with (go_at_call 9; refine (head_ok _).mono ?_; rintro e w1 ⟨rfl, hb1⟩)
      go_ret
      exact ⟨rfl, hb1⟩
    · have c3 : (l : Int) ≤ k := by omega
      go_enter Try.func6, Try.ntmps6
      go_wp2_with (go_at_call 9; refine (head_ok _).mono ?_; rintro e w1 ⟨rfl, hb1⟩)
      go_ret
      exact ⟨rfl, hb1⟩

theorem walk_over (ad : Addr) (cap : Nat) (zs : List Int) (k : Nat) (more : Int) (w : World) (hb : Hid (AllB zs)) (hl : zs.length ≤ 2000) (hk : k < zs.length) (hm : 0 ≤ more ∧ more ≤ 255) (z : Int) (hzz : Hid (zs[k]?.getD 0 = z)) (hz : 255 - more < z) (hs : Src w (some ad) zs) :
    Calls Try.prog 6 #[.slice (some ad) zs.length cap, .int .i64 (k : Int), .int .u8 more] w fun e w' => e = .returned (.bool true) ∧ Below w.heap.size w w' := by
  go_enter Try.func6, Try.ntmps6
  go_wp2_with fail
  refine (head_ok w).mono ?_
  rintro e w1 ⟨rfl, hb1⟩
  have hs1 := hs.grow hb1
  have ce := hs1.cell k hk
  have zb := byte_at zs hb k
  rw [hzz.out] at ce zb
  clear hs hs1 hb hzz
  go_wp2
  go_ret
  exact ⟨rfl, hb1⟩

theorem walk (a : Option Addr) (l cap : Nat) (zs : List Int) (k : Int) (more : Int) (w : World) (hr : IsRow .u8 w a l cap zs) (wk : (Lit.int .i64 k).wf = true) (wm : (Lit.int .u8 more).wf = true) :
    Calls Try.prog 6 #[.slice a l cap, .int .i64 k, .int .u8 more] w fun e w' => e = .returned (.bool true) ∧ Below w.heap.size w w' := by
  obtain ⟨hs, hl, hcap, hmax, hall, hnone⟩ := row_src hr
  have hm : 0 ≤ more ∧ more ≤ 255 := by
    have e1 : IntKind.u8.min = 0 := rfl
    have e2 : IntKind.u8.max = 255 := rfl
    simp [Lit.wf] at wm
    omega
  by_cases c : 2000 < l ∨ k < 0 ∨ (l : Int) ≤ k
  · exact walk_no a l cap k more w (bounds_i64 wk) (by omega) c
  · obtain ⟨j, rfl⟩ : ∃ j : Nat, k = (j : Int) := ⟨k.toNat, by omega⟩
    cases a with
    | none => have := hnone rfl; omega
    | some ad =>
      have hl' := hl
      generalize zs.take l = ys at *
      subst hl
      by_cases c1 : ys[j]?.getD 0 ≤ 255 - more
      · by_cases c2 : j < 148
        · exact walk_low ad cap ys j more w hall (by omega) (by omega) hm _ rfl c1 hs c2
        · by_cases c3 : j < 156
          · exact walk_in ad cap ys j more w hall (by omega) (by omega) hm _ rfl c1 hs (by omega) c3
          · exact walk_up ad cap ys j more w hall (by omega) (by omega) hm _ rfl c1 hs (by omega)
      · exact walk_over ad cap ys j more w hall (by omega) (by omega) hm _ rfl (by omega) hs

theorem own : ownKnob Try.prog.godebug = none := by kernel_rfl
theorem laidOut : laidOutB Try.prog = true := by kernel_rfl
set_option maxRecDepth 100000 in
theorem lifted (os : Os) (started : os.Started) (H : Type) (enc : TypeId × Value → H) :
    ReturnsInHanded {} Try.checked os 6 .any (Rows.sumAddsSpec.pre6 enc Try.prog Try.f6 Rows.sumAddsRow.domain false) (Rows.sumAddsSpec.post enc Try.prog Try.f6 false true false false) := by
  refine returnsInHanded_of_change (C := Try.checked) own started (by kernel_rfl) Try.func6
    (ChangeSpec.witness6 (enc := enc) (C := Try.checked) false ⟨#[], #[.slice none 0 0, .int .i64 0, .int .u8 0], []⟩ 8 (by kernel_rfl) (by kernel_rfl) (by kernel_rfl) (by kernel_rfl)) ?_
  intro W base args ds gs before hval0 hW hcnd _
  have hval : ∀ (j : Nat) t v, Try.f6.params[j]? = some t → args[j]? = some v → Value.okWide Try.prog W .any base t v := hval0
  have hW' := hW
  obtain ⟨p, q, hA0, hV, rfl, hfz, hnd⟩ := hW
  have hA : DataW.TrodAll enc Try.prog W 0 (fun _ => true) true Try.f6.params.toList args.toList ds p := hA0
  rw [Try.params6] at hA hval
  obtain ⟨v0, vs0, d0, ds0, p0, q0, hargs, rfl, rfl, h0, r0⟩ := trodAll_cons hA
  obtain ⟨v1, vs1, d1, ds1, p1, q1, rfl, rfl, rfl, h1, r1⟩ := trodAll_cons r0
  obtain ⟨v2, vs2, d2, ds2, p2, q2, rfl, rfl, rfl, h2, r2⟩ := trodAll_cons r1
  obtain ⟨rfl, rfl, rfl⟩ := trodAll_nil r2
  obtain rfl : args = #[v0, v1, v2] := by cases args; simp_all
  obtain ⟨rfl, rfl⟩ := trodVars_none hV
  obtain ⟨a0, len0, cap0, rfl⟩ := okWide_slice Try.underlying22 (hval 0 22 v0 rfl rfl)
  have k0 := h0
  have lt0 : ∀ x ∈ p0, x.block < W.heap.size := by obtain ⟨m, hm⟩ := k0; exact DataW.trod_lt m _ _ _ hm
  obtain ⟨z0, w0⟩ : ∃ zs, IsRow .u8 W a0 len0 cap0 zs := by
    obtain ⟨fuel, hf⟩ := h0
    rcases open_ints Try.underlying22 Try.underlying5 (by kernel_rfl) hf with ⟨hcs, _⟩ | ⟨x, l, c, zs, hcs, _, hl, hm, hz, _, hcell, hwz⟩
    · simp [Value.cells] at hcs
      obtain ⟨rfl, rfl, rfl⟩ := hcs
      exact ⟨[], .inl ⟨rfl, rfl, rfl, rfl⟩⟩
    · simp [Value.cells] at hcs
      obtain ⟨rfl, rfl, rfl⟩ := hcs
      exact ⟨zs, .inr ⟨_, rfl, hl, hm, by simpa using hz, hcell, hwz⟩⟩
  obtain ⟨a1, rfl, rfl, rfl, w1⟩ := open_int Try.underlying3 (hval 1 3 v1 rfl rfl) h1
  obtain ⟨a2, rfl, rfl, rfl, w2⟩ := open_int Try.underlying5 (hval 2 5 v2 rfl rfl) h2
  clear hA0 hval0
  refine (walk a0 len0 cap0 z0 a1 a2 W w0 w1 w2).mono fun e W' ⟨he, bel⟩ => ?_
  subst he
  exact ⟨_, rfl, _, _, _, [], _, [], hW', trodAll_mk1 (shut_bool Try.underlying4 _), (trodAll_cons_mk (Below.trod laidOut (by kernel_rfl) (of_decide_eq_true (by kernel_rfl)) k0 bel lt0) (trodAll_cons_mk (shut_int Try.underlying3 w1) (trodAll_cons_mk (shut_int Try.underlying5 w2) trodAll_mk0))), rfl, bel.frame _, fun h => by cases h⟩

theorem over : Rows.sumAddsRow.holds Try.pinned (OpenSpec.ofChange Rows.sumAddsSpec) :=
  OpenClaim.holds_of_wide 6 Try.f6 rfl rfl rfl rfl rfl rfl rfl ⟨rfl, rfl, rfl, rfl, rfl⟩ rfl rfl rfl rfl rfl (by kernel_rfl) Try.func6 (by kernel_rfl)
    (of_decide_eq_true (by kernel_rfl)) (by unfold Func.isWrapper; first | (rw [if_pos (by decide +kernel)]; kernel_rfl) | (rw [if_neg (by decide +kernel)]; exact ⟨rfl, rfl⟩))
    (fun os started H enc _ => lifted os started H enc)

end Go.Proofs.Ytmholjjicklnhaa.sumAdds
namespace Go.Proofs.Ytmholjjicklnhaa
theorem sumAdds_holds : Rows.SumAddsSaid := sumAdds.over
#print axioms sumAdds_holds
end Go.Proofs.Ytmholjjicklnhaa
