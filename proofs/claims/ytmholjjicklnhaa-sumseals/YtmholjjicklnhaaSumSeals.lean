/-
  The law SumSeals returns true for every bytes, every place and every byte; no condition.
-/
import Derived.Test.YtmholjjicklnhaaRows
import Derived.Test.YtmholjjicklnhaaCopied
import Derived.BigQuiet
import Derived.ProofKit
import Derived.OpenShut
import Derived.ShutString
import Derived.ChangeOld
import Derived.Below
namespace Go.Proofs.Ytmholjjicklnhaa.sumSeals
open Go.ChangeShapes Go.WideShapes Go.ChangeAt Go.RowKit
set_option linter.unusedVariables false
set_option linter.unusedSimpArgs false


theorem xor_byte (x y : Int) (hx : 0 ≤ x ∧ x ≤ 255) (hy : 0 ≤ y ∧ y ≤ 255) : (0 ≤ bits .xor .u8 x y ∧ bits .xor .u8 x y ≤ 255) ∧ (y ≠ 0 → bits .xor .u8 x y ≠ x) := by
  have e : bits .xor .u8 x y = IntKind.u8.wrap (((BitVec.ofInt 8 x ^^^ BitVec.ofInt 8 y).toNat : Nat) : Int) := rfl
  have hlt := (BitVec.ofInt 8 x ^^^ BitVec.ofInt 8 y).isLt
  have e2 : bits .xor .u8 x y = ((BitVec.ofInt 8 x ^^^ BitVec.ofInt 8 y).toNat : Int) := by rw [e, IntKind.wrap_u8]; omega
  refine ⟨by omega, fun h0 h => h0 ?_⟩
  have ex : (BitVec.ofInt 8 x).toNat = x.toNat := by rw [BitVec.toNat_ofInt]; omega
  have ey : (BitVec.ofInt 8 y).toNat = y.toNat := by rw [BitVec.toNat_ofInt]; omega
  have h1 : BitVec.ofInt 8 x ^^^ BitVec.ofInt 8 y = BitVec.ofInt 8 x := BitVec.eq_of_toNat_eq (by rw [ex]; omega)
  have h2 : BitVec.ofInt 8 y = 0#8 := by
    have h3 : BitVec.ofInt 8 x ^^^ (BitVec.ofInt 8 x ^^^ BitVec.ofInt 8 y) = BitVec.ofInt 8 x ^^^ BitVec.ofInt 8 x := by rw [h1]
    rw [← BitVec.xor_assoc, BitVec.xor_self, BitVec.zero_xor] at h3
    exact h3
  rw [h2] at ey
  simp at ey
  omega

theorem byte_at (zs : List Int) (h : AllB zs) (k : Nat) : 0 ≤ zs[k]?.getD 0 ∧ zs[k]?.getD 0 ≤ 255 := by
  by_cases c : k < zs.length
  · simp only [List.getElem?_eq_getElem c, Option.getD_some]; exact h _ (List.getElem_mem c)
  · simp [c]

theorem allB_set (zs : List Int) (h : AllB zs) (k : Nat) (v : Int) (hv : 0 ≤ v ∧ v ≤ 255) : AllB (zs.set k v) := by
  intro z hz
  rcases List.mem_or_eq_of_mem_set hz with h1 | rfl
  · exact h z h1
  · exact hv

theorem run_upto (w : World) (ad : Addr) (n cap d : Nat) (h : d ≤ cap) : (Instr.slice 22 (.slice (some ad) n cap) none (some (.int .i64 (d : Int))) none).run Try.prog w = .ok (.slice (some ad) d cap) w := by
  have hi := inf5
  cases hq : Try.prog.info? 5 with
  | none => simp [hq] at hi
  | some i =>
    have hb : (Instr.sliceBound (.int .i64 (d : Int)) cap .sliceAcap).run Try.prog w = .ok d w := by
      have := run_sliceBound (P := Try.prog) w .i64 (d : Int) cap .sliceAcap (by omega) (by omega)
      simpa using this
    simp [Instr.slice, run_underlying Try.underlying22, Instr.sliceBounds, sizeOf, typeInfo, hq, hb, Addr.add]

theorem run_behind (w : World) (ad : Addr) (n cap c : Nat) (h0 : 0 < c) (h : c ≤ n) (h3 : c < cap) : (Instr.slice 22 (.slice (some ad) n cap) (some (.int .i64 (c : Int))) none none).run Try.prog w = .ok (.slice (some ⟨ad.block, ad.off + c, none⟩) (n - c) (cap - c)) w := by
  have hi := inf5
  cases hq : Try.prog.info? 5 with
  | none => simp [hq] at hi
  | some i =>
    have hs : i.size = 1 := by simpa [hq] using hi
    have hb : (Instr.sliceBound (.int .i64 (c : Int)) n .sliceB).run Try.prog w = .ok c w := by
      have := run_sliceBound (P := Try.prog) w .i64 (c : Int) n .sliceB (by omega) (by omega)
      simpa using this
    simp [Instr.slice, run_underlying Try.underlying22, Instr.sliceBounds, sizeOf, typeInfo, hq, hs, hb, Addr.add]
    rw [if_neg (by omega), if_neg (by omega)]

theorem src_head {w : World} {ad : Addr} {zs : List Int} (h : Src w (some ad) zs) (d : Nat) : Src w (some ad) (zs.take d) := by
  intro h0
  refine ⟨_, rfl, fun j v hv => ?_⟩
  have hj := (List.getElem?_eq_some_iff.1 hv).1
  rw [cellsOf_length, List.length_take] at hj
  rw [h.cell j (by omega), ← hv]
  simp only [cellsOf, List.getElem?_map, List.getElem?_take]
  rw [if_pos (by omega), List.getElem?_eq_getElem (by omega : j < zs.length)]
  simp

theorem src_tail {w : World} {ad : Addr} {zs : List Int} (h : Src w (some ad) zs) (c : Nat) (hc : 0 < c) : Src w (some ⟨ad.block, ad.off + c, none⟩) (zs.drop c) := by
  have := src_cut h c zs.length hc
  rwa [List.take_of_length_le (by simp)] at this

theorem seal_head (zs : List Int) (h : zs.length = 512) : (sealL zs).take 148 = zs.take 148 := by
  unfold sealL putL
  rw [List.append_assoc, List.take_append_of_le_length (by rw [List.length_take]; omega), List.take_take, Nat.min_self]

theorem seal_tail (zs : List Int) (h : zs.length = 512) : (sealL zs).drop 156 = zs.drop 156 := by
  unfold sealL putL
  have l : (zs.take 148 ++ endF (plainS zs)).length = 156 := by rw [List.length_append, endF_length, List.length_take]; omega
  rw [List.drop_append_of_le_length (by omega), List.drop_of_length_le (by omega), List.nil_append]

set_option maxRecDepth 100000 in
set_option maxHeartbeats 4000000 in
theorem walk_yes (ad : Addr) (cap : Nat) (zs : List Int) (k turn : Int) (w : World) (hb : Hid (AllB zs)) (hl : Hid (zs.length = 512)) (hcap : 512 ≤ cap) (hs : Src w (some ad) zs) (wk : -9223372036854775808 ≤ k ∧ k ≤ 9223372036854775807) (ht : 0 ≤ turn ∧ turn ≤ 255) :
    Calls Try.prog 4 #[.slice (some ad) 512 cap, .int .i64 k, .int .u8 turn] w fun e w' => e = .returned (.bool true) ∧ Below w.heap.size w w' := by
  go_enter Try.func4, Try.ntmps4
  go_wp2_with fail
  refine (head_ok w).mono ?_
  rintro e w1 ⟨rfl, hb1⟩
  have hs1 := hs.grow hb1
  have q := seal_yes ad cap zs w1 hb hl hs1
  go_wp2_with fail
  refine q.mono ?_
  rintro e w2 ⟨g, rfl, o2⟩
  clear q
  have lS : Hid ((sealL zs).length = 512) := sealL_length zs hl
  have aS : Hid (AllB (sealL zs)) := sealL_allB zs hb
  have hs2 := hs1.grow o2.below
  have o2' : ∀ nq, Own w1 (w2.drewN nq) g (sealL zs) := fun nq => ⟨⟨o2.below.os, o2.below.tape, o2.below.output, o2.below.size, o2.below.block⟩, o2.ge, o2.row⟩
  have hs2' : ∀ nq, Src (w2.drewN nq) (some ad) zs := fun nq => hs2.moved fun _ _ => rfl
  have qr : ∀ nq, Calls Try.prog 14 #[.slice (some ⟨g, 0, none⟩) 512 512] (w2.drewN nq) fun e w' => e = .returned (.bool true) ∧ w' = w2.drewN nq := fun nq => by
    have := right_yes ⟨g, 0, none⟩ 512 (sealL zs) (w2.drewN nq) aS lS (by omega) (by omega) (o2' nq).src
    rw [sealL_right zs hl hb] at this
    exact this.mono fun _ _ h => ⟨h.1, h.2.symm⟩
  have r1 := fun W => run_upto W ⟨g, 0, none⟩ 512 512 148 (by omega)
  have r2 := fun W => run_upto W ad 512 cap 148 (by omega)
  have r3 := fun W => run_behind W ⟨g, 0, none⟩ 512 512 156 (by omega) (by omega) (by omega)
  have r4 := fun W => run_behind W ad 512 cap 156 (by omega) (by omega) (by omega)
  have v1 := fun nq => conv_src (w2.drewN nq) (some ⟨g, 0, none⟩) (zs.take 148) 148 512 (by rw [List.length_take, hl.out]; rfl) (by rw [← seal_head zs hl]; exact src_head (o2' nq).src 148)
  have v2 := fun nq => conv_src (w2.drewN nq) (some ad) (zs.take 148) 148 cap (by rw [List.length_take, hl.out]; rfl) (src_head (hs2' nq) 148)
  have v3 := fun nq => conv_src (w2.drewN nq) (some ⟨g, 0 + 156, none⟩) (zs.drop 156) (512 - 156) (512 - 156) (by rw [List.length_drop, hl.out]) (by rw [← seal_tail zs hl]; exact src_tail (o2' nq).src 156 (by omega))
  have v4 := fun nq => conv_src (w2.drewN nq) (some ⟨ad.block, ad.off + 156, none⟩) (zs.drop 156) (512 - 156) (cap - 156) (by rw [List.length_drop, hl.out]) (src_tail (hs2' nq) 156 (by omega))
  generalize strOf (zs.take 148) = S1 at *
  generalize strOf (zs.drop 156) = S2 at *
  clear hs hs1 hs2 o2 hs2'
  go_wp2_with fail
  go_quiet ((go_at_call 14; exact Calls.quiet_of_same (qr _)))
  have o3 := o2' nq
  clear qr v1 v2 v3 v4 r1 r2 r3 r4 o2'
  generalize w2.drewN nq = w3 at *
  have b3 := hb1.trans (o3.below.mono hb1.size)
  by_cases c1 : k < 0
  · clear o3 lS aS hb hl
    go_wp2
    go_ret
    exact ⟨rfl, b3⟩
  by_cases c2 : 511 < k
  · clear o3 lS aS hb hl
    go_wp2
    go_ret
    exact ⟨rfl, b3⟩
  by_cases c3 : 148 ≤ k ∧ k < 156
  · obtain ⟨c3, c4⟩ := c3
    clear o3 lS aS hb hl
    go_wp2
    go_ret
    exact ⟨rfl, b3⟩
  by_cases c5 : turn = 0
  · subst c5
    clear o3 lS aS hb hl
    by_cases c6 : 148 ≤ k
    · have c7 : ¬ k < 156 := by omega
      go_wp2
      go_ret
      exact ⟨rfl, b3⟩
    · go_wp2
      go_ret
      exact ⟨rfl, b3⟩
  obtain ⟨j, rfl⟩ : ∃ j : Nat, k = (j : Int) := ⟨k.toNat, by omega⟩
  have hz := byte_at (sealL zs) aS j
  have hx := xor_byte ((sealL zs)[j]?.getD 0) turn hz ht
  have hx2 := hx.2 c5
  have hx1 := hx.1
  clear hx
  obtain ⟨st1, st2⟩ := seal_turned zs hl hb j (bits .xor .u8 ((sealL zs)[j]?.getD 0) turn) (by omega) (by omega) hx2
  have hzz : Hid ((sealL zs)[j]?.getD 0 = (sealL zs)[j]?.getD 0) := rfl
  generalize hX : bits .xor .u8 ((sealL zs)[j]?.getD 0) turn = X at *
  generalize hZ : (sealL zs)[j]?.getD 0 = z at hz hx2 st1 hzz hX
  have HZ : Hid ((sealL zs)[j]?.getD 0 = z) := hZ
  clear hzz hZ
  have pb := plain_small (sealL zs) lS aS
  have aT : Hid (AllB ((sealL zs).set j X)) := allB_set _ aS j X hx1
  have lT : Hid (((sealL zs).set j X).length = 512) := by show _ = _; rw [List.length_set]; exact lS
  have tb := plain_small _ lT aT
  have tsb := signed_bound _ aT
  rw [lT.out] at tsb
  clear hb hl
  generalize sealL zs = S at *
  generalize hTd : S.set j X = T at *
  have HT : Hid (S.set j X = T) := hTd
  clear hTd
  by_cases c6 : 148 ≤ (j : Int)
  · have c7 : ¬ (j : Int) < 156 := by omega
    go_wp2_with (at_builtin; refine wpList_copied (W := w3) rfl _ _ rfl rfl ⟨g, 0, none⟩ 512 512 S lS.out rfl o3.src (by omega) ?_)
    intro g2 c' w4 hc1 hc2 o4
    have a1 := o4.cell j (by rw [lS.out]; omega)
    rw [HZ.out] at a1
    have a2 := o4.frozen j
    have o5 := o4.set j (by rw [lS.out]; omega) X
    rw [HT.out] at o5
    have n1 : g ≠ g2 := by have := o3.lt; have := o4.ge; omega
    have s5 := (o3.src.grow o4.below).moved (w' := w4.setCell ⟨g2, j, none⟩ (.int .u8 X)) fun a e => by cases e; exact Below.heap_setCell _ _ _ _ n1
    have b4 := b3.trans (o5.below.mono b3.size)
    clear o4 o3
    generalize hw5 : w4.setCell ⟨g2, j, none⟩ (.int .u8 X) = w5 at *
    have d1 := o5.cell j (by rw [lT.out]; omega)
    have dX : Hid (T[j]?.getD 0 = X) := by show _ = _; rw [← HT.out, List.getElem?_set_self (by rw [lS.out]; omega)]; rfl
    rw [dX.out] at d1
    have d2 := s5.cell j (by rw [lS.out]; omega)
    rw [HZ.out, addr0] at d2
    have d1' : ∀ nq, (w5.drewN nq).cell? ⟨g2, j, none⟩ = some (.int .u8 X) := fun nq => d1
    have d2' : ∀ nq, (w5.drewN nq).cell? ⟨g, j, none⟩ = some (.int .u8 z) := fun nq => d2
    go_wp2_with fail
    go_quiet (fail)
    have o6 : Own w3 (w5.drewN nq) g2 T := ⟨⟨o5.below.os, o5.below.tape, o5.below.output, o5.below.size, o5.below.block⟩, o5.ge, o5.row⟩
    have s6 : Src (w5.drewN nq) (some ⟨g, 0, none⟩) S := s5.moved fun _ _ => rfl
    have b6 : Below w.heap.size w (w5.drewN nq) := ⟨b4.os, b4.tape, b4.output, b4.size, b4.block⟩
    clear d1' d2' d1 d2 o5 s5 b4
    generalize w5.drewN nq = w6 at *
    have p1 := plain_w ⟨g2, 0, none⟩ c' T w6 aT (by rw [lT.out]; omega) o6.src
    have p2 := plain_w ⟨g, 0, none⟩ 512 S w6 aS (by rw [lS.out]; omega) s6
    have p3 := right_yes ⟨g2, 0, none⟩ c' T w6 aT lT hc1 hc2 o6.src
    have p4 := signed_w ⟨g2, 0, none⟩ c' T w6 aT (by rw [lT.out]; omega) o6.src
    rw [lT.out] at p1 p4
    rw [lS.out] at p2
    rw [st2] at p3
    clear o6 s6 aT lT aS lS HT HZ dX st2
    generalize plainS T = pT at *
    generalize plainS S = pS at *
    generalize signedS T = sT at *
    go_wp2_with fail
    refine p1.mono ?_
    rintro e w' ⟨rfl, rfl⟩
    go_wp2_with fail
    refine p2.mono ?_
    rintro e w' ⟨rfl, rfl⟩
    go_wp2_with fail
    refine p3.mono ?_
    rintro e w' ⟨rfl, rfl⟩
    go_wp2_with fail
    refine p4.mono ?_
    rintro e w' ⟨rfl, rfl⟩
    go_wp2_with fail
    refine p2.mono ?_
    rintro e w' ⟨rfl, rfl⟩
    go_wp2
    go_ret
    exact ⟨by by_cases c8 : sT = pS <;> simp [c8, st1], b6⟩
  · go_wp2_with (at_builtin; refine wpList_copied (W := w3) rfl _ _ rfl rfl ⟨g, 0, none⟩ 512 512 S lS.out rfl o3.src (by omega) ?_)
    intro g2 c' w4 hc1 hc2 o4
    have a1 := o4.cell j (by rw [lS.out]; omega)
    rw [HZ.out] at a1
    have a2 := o4.frozen j
    have o5 := o4.set j (by rw [lS.out]; omega) X
    rw [HT.out] at o5
    have n1 : g ≠ g2 := by have := o3.lt; have := o4.ge; omega
    have s5 := (o3.src.grow o4.below).moved (w' := w4.setCell ⟨g2, j, none⟩ (.int .u8 X)) fun a e => by cases e; exact Below.heap_setCell _ _ _ _ n1
    have b4 := b3.trans (o5.below.mono b3.size)
    clear o4 o3
    generalize hw5 : w4.setCell ⟨g2, j, none⟩ (.int .u8 X) = w5 at *
    have d1 := o5.cell j (by rw [lT.out]; omega)
    have dX : Hid (T[j]?.getD 0 = X) := by show _ = _; rw [← HT.out, List.getElem?_set_self (by rw [lS.out]; omega)]; rfl
    rw [dX.out] at d1
    have d2 := s5.cell j (by rw [lS.out]; omega)
    rw [HZ.out, addr0] at d2
    have d1' : ∀ nq, (w5.drewN nq).cell? ⟨g2, j, none⟩ = some (.int .u8 X) := fun nq => d1
    have d2' : ∀ nq, (w5.drewN nq).cell? ⟨g, j, none⟩ = some (.int .u8 z) := fun nq => d2
    go_wp2_with fail
    go_quiet (fail)
    have o6 : Own w3 (w5.drewN nq) g2 T := ⟨⟨o5.below.os, o5.below.tape, o5.below.output, o5.below.size, o5.below.block⟩, o5.ge, o5.row⟩
    have s6 : Src (w5.drewN nq) (some ⟨g, 0, none⟩) S := s5.moved fun _ _ => rfl
    have b6 : Below w.heap.size w (w5.drewN nq) := ⟨b4.os, b4.tape, b4.output, b4.size, b4.block⟩
    clear d1' d2' d1 d2 o5 s5 b4
    generalize w5.drewN nq = w6 at *
    have p1 := plain_w ⟨g2, 0, none⟩ c' T w6 aT (by rw [lT.out]; omega) o6.src
    have p2 := plain_w ⟨g, 0, none⟩ 512 S w6 aS (by rw [lS.out]; omega) s6
    have p3 := right_yes ⟨g2, 0, none⟩ c' T w6 aT lT hc1 hc2 o6.src
    have p4 := signed_w ⟨g2, 0, none⟩ c' T w6 aT (by rw [lT.out]; omega) o6.src
    rw [lT.out] at p1 p4
    rw [lS.out] at p2
    rw [st2] at p3
    clear o6 s6 aT lT aS lS HT HZ dX st2
    generalize plainS T = pT at *
    generalize plainS S = pS at *
    generalize signedS T = sT at *
    go_wp2_with fail
    refine p1.mono ?_
    rintro e w' ⟨rfl, rfl⟩
    go_wp2_with fail
    refine p2.mono ?_
    rintro e w' ⟨rfl, rfl⟩
    go_wp2_with fail
    refine p3.mono ?_
    rintro e w' ⟨rfl, rfl⟩
    go_wp2_with fail
    refine p4.mono ?_
    rintro e w' ⟨rfl, rfl⟩
    go_wp2_with fail
    refine p2.mono ?_
    rintro e w' ⟨rfl, rfl⟩
    go_wp2
    go_ret
    exact ⟨by by_cases c8 : sT = pS <;> simp [c8, st1], b6⟩


theorem walk_no (a : Option Addr) (l cap : Nat) (k turn : Int) (w : World) (h : l ≠ 512) (hl : l ≤ 9223372036854775807) :
    Calls Try.prog 4 #[.slice a l cap, .int .i64 k, .int .u8 turn] w fun e w' => e = .returned (.bool true) ∧ Below w.heap.size w w' := by
  have h2 : ¬ (l : Int) = 512 := by omega
  go_enter Try.func4, Try.ntmps4
  go_wp2_with (first | (go_at_call 9; refine (head_ok _).mono ?_; rintro e w1 ⟨rfl, hb1⟩) | (go_at_call 16; refine (seal_no a l cap _ h hl).mono ?_; rintro e w1 ⟨rfl, rfl⟩))
  go_ret
  exact ⟨rfl, hb1⟩

theorem walk (a : Option Addr) (l cap : Nat) (zs : List Int) (k turn : Int) (w : World) (hr : IsRow .u8 w a l cap zs) (wk : (Lit.int .i64 k).wf = true) (wt : (Lit.int .u8 turn).wf = true) :
    Calls Try.prog 4 #[.slice a l cap, .int .i64 k, .int .u8 turn] w fun e w' => e = .returned (.bool true) ∧ Below w.heap.size w w' := by
  obtain ⟨hs, hl, hcap, hmax, hall, hnone⟩ := row_src hr
  have hm : 0 ≤ turn ∧ turn ≤ 255 := by
    have e1 : IntKind.u8.min = 0 := rfl
    have e2 : IntKind.u8.max = 255 := rfl
    simp [Lit.wf] at wt
    omega
  by_cases c : l = 512
  · subst c
    cases a with
    | none => have := hnone rfl; omega
    | some ad => exact walk_yes ad cap _ k turn w hall hl hcap hs (bounds_i64 wk) hm
  · exact walk_no a l cap k turn w c (by omega)

theorem own : ownKnob Try.prog.godebug = none := by kernel_rfl
theorem laidOut : laidOutB Try.prog = true := by kernel_rfl
set_option maxRecDepth 100000 in
theorem lifted (os : Os) (started : os.Started) (H : Type) (enc : TypeId × Value → H) :
    ReturnsInHanded {} Try.checked os 4 .any (Rows.sumSealsSpec.pre6 enc Try.prog Try.f4 Rows.sumSealsRow.domain false) (Rows.sumSealsSpec.post enc Try.prog Try.f4 false true false false) := by
  refine returnsInHanded_of_change (C := Try.checked) own started (by kernel_rfl) Try.func4
    (ChangeSpec.witness6 (enc := enc) (C := Try.checked) false ⟨#[], #[.slice none 0 0, .int .i64 0, .int .u8 0], []⟩ 8 (by kernel_rfl) (by kernel_rfl) (by kernel_rfl) (by kernel_rfl)) ?_
  intro W base args ds gs before hval0 hW hcnd _
  have hval : ∀ (j : Nat) t v, Try.f4.params[j]? = some t → args[j]? = some v → Value.okWide Try.prog W .any base t v := hval0
  have hW' := hW
  obtain ⟨p, q, hA0, hV, rfl, hfz, hnd⟩ := hW
  have hA : DataW.TrodAll enc Try.prog W 0 (fun _ => true) true Try.f4.params.toList args.toList ds p := hA0
  rw [Try.params4] at hA hval
  obtain ⟨v0, vs0, d0, ds0, p0, q0, hargs, rfl, rfl, h0, r0⟩ := trodAll_cons hA
  obtain ⟨v1, vs1, d1, ds1, p1, q1, rfl, rfl, rfl, h1, r1⟩ := trodAll_cons r0
  obtain ⟨v2, vs2, d2, ds2, p2, q2, rfl, rfl, rfl, h2, r2⟩ := trodAll_cons r1
  obtain ⟨rfl, rfl, rfl⟩ := trodAll_nil r2
  obtain rfl : args = #[v0, v1, v2] := by cases args; simp_all
  obtain ⟨rfl, rfl⟩ := trodVars_none hV
  obtain ⟨a0, len0, cap0, rfl⟩ := okWide_slice Try.underlying22 (hval 0 22 v0 rfl rfl)
  have k0 := h0
  have lt0 : ∀ x ∈ p0, x.block < W.heap.size := by obtain ⟨m, hm⟩ := k0; exact DataW.trod_lt m _ _ _ hm
  obtain ⟨z0, w0⟩ : ∃ zs, IsRow .u8 W a0 len0 cap0 zs := by
    obtain ⟨fuel, hf⟩ := h0
    rcases open_ints Try.underlying22 Try.underlying5 (by kernel_rfl) hf with ⟨hcs, _⟩ | ⟨x, l, c, zs, hcs, _, hl, hm, hz, _, hcell, hwz⟩
    · simp [Value.cells] at hcs
      obtain ⟨rfl, rfl, rfl⟩ := hcs
      exact ⟨[], .inl ⟨rfl, rfl, rfl, rfl⟩⟩
    · simp [Value.cells] at hcs
      obtain ⟨rfl, rfl, rfl⟩ := hcs
      exact ⟨zs, .inr ⟨_, rfl, hl, hm, by simpa using hz, hcell, hwz⟩⟩
  obtain ⟨a1, rfl, rfl, rfl, w1⟩ := open_int Try.underlying3 (hval 1 3 v1 rfl rfl) h1
  obtain ⟨a2, rfl, rfl, rfl, w2⟩ := open_int Try.underlying5 (hval 2 5 v2 rfl rfl) h2
  clear hA0 hval0
  refine (walk a0 len0 cap0 z0 a1 a2 W w0 w1 w2).mono fun e W' ⟨he, bel⟩ => ?_
  subst he
  exact ⟨_, rfl, _, _, _, [], _, [], hW', trodAll_mk1 (shut_bool Try.underlying4 _), (trodAll_cons_mk (Below.trod laidOut (by kernel_rfl) (of_decide_eq_true (by kernel_rfl)) k0 bel lt0) (trodAll_cons_mk (shut_int Try.underlying3 w1) (trodAll_cons_mk (shut_int Try.underlying5 w2) trodAll_mk0))), rfl, bel.frame _, fun h => by cases h⟩

theorem over : Rows.sumSealsRow.holds Try.pinned (OpenSpec.ofChange Rows.sumSealsSpec) :=
  OpenClaim.holds_of_wide 4 Try.f4 rfl rfl rfl rfl rfl rfl rfl ⟨rfl, rfl, rfl, rfl, rfl⟩ rfl rfl rfl rfl rfl (by kernel_rfl) Try.func4 (by kernel_rfl)
    (of_decide_eq_true (by kernel_rfl)) (by unfold Func.isWrapper; first | (rw [if_pos (by decide +kernel)]; kernel_rfl) | (rw [if_neg (by decide +kernel)]; exact ⟨rfl, rfl⟩))
    (fun os started H enc _ => lifted os started H enc)

end Go.Proofs.Ytmholjjicklnhaa.sumSeals
namespace Go.Proofs.Ytmholjjicklnhaa
theorem sumSeals_holds : Rows.SumSealsSaid := sumSeals.over
#print axioms sumSeals_holds
end Go.Proofs.Ytmholjjicklnhaa
