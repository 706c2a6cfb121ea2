/-
  The walk of PushBytes.
-/
import Derived.Test.YtnmmaedngdibeaaGreatDoorRx
namespace Go.Proofs.YtnmmaedngdibeaaGreatDoor
open Go.RowKit
set_option linter.unusedVariables false
set_option linter.unusedSimpArgs false

set_option maxRecDepth 100000 in
set_option maxHeartbeats 8000000 in
theorem bytes_w (w : World) (vb vc : Value) (f : Int) (zs cuts : List Int) (hb : RIn .u8 w vb zs) (hc : RIn .i64 w vc cuts) (hA : H.AllB zs) (hf : 0 ≤ f ∧ f ≤ 255) (hL : Lb w) (hF : F.Laid w) :
    Calls Tryz.prog 6 #[vb, .int .u8 f, vc] w fun e w' => e = .returned (.bool true) ∧ Below w.heap.size w w' := by
  obtain ⟨PP, hPP⟩ : ∃ PP : Ending → World → Prop, PP = fun e w' => e = .returned (.bool true) ∧ Below w.heap.size w w' := ⟨_, rfl⟩
  rw [← hPP]
  have HP : Hid (∀ W, Below w.heap.size w W → PP (.returned (.bool true)) W) := fun W b => by rw [hPP]; exact ⟨rfl, b⟩
  clear hPP
  have q0 := reads_w w hL
  obtain ⟨ad0, c0, rfl⟩ := hb.sl
  obtain ⟨ad2, c2, rfl⟩ := hc.sl
  by_cases l0 : (5000 : Int) < (zs.length : Int)
  · clear hb hc hA hL hF
    go_enter Tryz.func6, Tryz.ntmps6
    go_wp2_with (go_at_call 10; refine q0.mono ?_; rintro e w1 ⟨rfl, b1⟩)
    exact HP.out _ b1
  by_cases l1 : (100 : Int) < (cuts.length : Int)
  · clear hb hc hA hL hF
    go_enter Tryz.func6, Tryz.ntmps6
    go_wp2_with (go_at_call 10; refine q0.mono ?_; rintro e w1 ⟨rfl, b1⟩)
    exact HP.out _ b1
  have hn := numsM (zs.length : Int) (by omega) (by omega)
  have hlen := hdG_len (n := ⟨#[97]⟩) (ty := 48) (md := 0) (sz := (zs.length : Int)) textsA hn
  have hhA := hdG_allB (n := ⟨#[97]⟩) (ty := 48) (md := 0) (sz := (zs.length : Int)) (by omega)
  have HE : Hid (∀ W, Below w.heap.size w W → Calls Tryz.prog 20 #[.agg #[.int .i64 0, .string ⟨#[97]⟩, .string ⟨#[]⟩, .string ⟨#[]⟩, .string ⟨#[]⟩, .string ⟨#[]⟩, .int .u8 48, .int .i64 0, .int .i64 0, .int .i64 0, .int .i64 (zs.length : Int), .int .i64 0]] W fun e w' =>
      ∃ g, e = .returned (.tuple #[.slice (some ⟨g, 0, none⟩) 512 512, .int .i64 0]) ∧ H.Own W w' g (hdG ⟨#[97]⟩ 48 0 (zs.length : Int))) := fun W b => enc_fits ⟨#[97]⟩ 48 0 (zs.length : Int) W textsA hn (hL.below b).laid (by omega) (by omega) (by omega)
  have hfin := bytes_fin zs
  generalize hdG ⟨#[97]⟩ 48 0 (zs.length : Int) = z at *
  obtain ⟨Z, hZ⟩ : ∃ Z, Z = List.replicate 1024 (0 : Int) := ⟨_, rfl⟩
  have hZl : Z.length = 1024 := by rw [hZ]; exact List.length_replicate
  have hZ0 : ∀ x ∈ Z, x = 0 := fun x hx => by rw [hZ] at hx; exact List.eq_of_mem_replicate hx
  have HZ : Hid (Z = List.replicate 1024 (0 : Int)) := hZ
  rw [← hZ] at hfin
  clear hZ
  have HFD : Hid (∀ W v (fl : List Int), Below w.heap.size w W → RIn .u8 W v (z ++ zs ++ fl ++ Z) → H.AllB fl → fl.length ≤ 511 → Calls Tryz.prog 11 #[v, .slice ad2 cuts.length c2] W fun e w' => ∃ tv, e = .returned (.tuple #[.agg (arC tv (finA (z ++ zs ++ fl ++ Z))), .bool true]) ∧ ThS w' tv (finA (z ++ zs ++ fl ++ Z)).ts ∧ Below W.heap.size W w' ∧ ∀ k, tv.ownBlock = some k → W.heap.size ≤ k) := fun W v fl b h hfl hfl2 =>
    fed_w W _ _ _ cuts h (hc.below b) (fun x hx => by
      simp only [List.mem_append] at hx
      rcases hx with ((q | q) | q) | q
      · exact hhA x q
      · exact hA x q
      · exact hfl x q
      · rw [hZ0 x q]; omega) (by simp only [List.length_append]; omega) (by omega) (hL.below b) (hF.below b)
  have HRB : Hid (∀ W, Below w.heap.size w W → RIn .u8 W (.slice ad0 zs.length c0) zs) := fun W b => hb.below b
  have HCV : Hid (∀ W, Below w.heap.size w W → (convert 22 9 (.slice ad0 zs.length c0)).run Tryz.prog W = .ok (.string (strB zs)) W) := fun W b => conv_rin (hb.below b) hA
  obtain ⟨pd, hpd⟩ : ∃ pd, pd = (512 - zs.length % 512) % 512 := ⟨_, rfl⟩
  have hfi : (∃ e : E.En, finA (z ++ zs ++ List.replicate pd f ++ Z) = ⟨[⟨e, zs, true, 512 + zs.length⟩], false, true, true, 0, 0⟩) := hfin (List.replicate pd f) (by omega) (by rw [List.length_replicate, hpd])
  have HFP : Hid (∀ W v, Below w.heap.size w W → RIn .u8 W v (z ++ zs ++ List.replicate pd f ++ Z) → Calls Tryz.prog 11 #[v, .slice ad2 cuts.length c2] W fun e w' => ∃ tv, e = .returned (.tuple #[.agg (arC tv (finA (z ++ zs ++ List.replicate pd f ++ Z))), .bool true]) ∧ ThS w' tv (finA (z ++ zs ++ List.replicate pd f ++ Z)).ts ∧ Below W.heap.size W w' ∧ ∀ k, tv.ownBlock = some k → W.heap.size ≤ k) := fun W v b h => HFD.out W v (List.replicate pd f) b h (fun x hx => by rw [List.eq_of_mem_replicate hx]; exact hf) (by rw [List.length_replicate]; omega)
  generalize finA (z ++ zs ++ List.replicate pd f ++ Z) = AA at *
  obtain ⟨en, hAA⟩ := hfi
  have HAA : Hid _ := hAA
  clear hAA HFD
  have hzne : z ≠ [] := fun e => by rw [e] at hlen; simp at hlen
  have HLN : Hid (z.length = 512) := hlen
  have HPD : Hid (pd = (512 - zs.length % 512) % 512) := hpd
  have hpd2 : pd ≤ 511 := by omega
  have hzz := zeroHdr
  unfold H.hcells at hzz
  have hzA := zeroAr
  have hsz := sizeAr
  clear hb hc hA hL hF hn hhA hfin hlen hpd
  go_enter Tryz.func6, Tryz.ntmps6
  go_upto_region 5 with (go_at_call 10; refine q0.mono ?_; rintro e w1 ⟨rfl, b1⟩)
  go_upto_region 8 with (go_at_call 20; refine (HE.out _ b1).mono ?_; rintro e w2 ⟨g, rfl, o2⟩)
  have B2 : Hid (Below w.heap.size w w2) := b1.trans (o2.below.mono b1.size)
  have hcs := own_cells o2 hzne
  have HR2 : Hid _ := HRB.out w2 B2.out
  have hs2 := B2.out.size
  have HCS : Hid _ := hcs
  clear o2 hcs hzne b1 HE
  go_wp2_with (at_builtin; refine wpList_fo_app rfl _ _ rfl rfl HLN.out HCS.out _ rfl HR2.out (by have := HLN.out; omega) w.heap.size hs2 ?_; intro v3 w3 fo3 b3; obtain ⟨a3, c3, rfl⟩ := fo3.sl; have HFO3 : Hid _ := fo3; have HB3 : Hid _ := b3; clear fo3 b3)
  have HB03 : Hid (Below w.heap.size w w3) := B2.out.trans (HB3.out)
  have e0 : z.length + zs.length = 512 + zs.length + 0 := by have := HLN.out; omega
  have FO0 : Hid (FO w3 w.heap.size (.slice a3 (512 + zs.length + 0) c3) (z ++ zs ++ List.replicate 0 f)) := by
    rw [List.replicate_zero, List.append_nil, ← e0, ← List.length_append]
    exact HFO3.out
  rw [e0]
  clear e0 HFO3 HB3 HCS HR2
  go_loopg [7] pd (fun gk t7 W => ∃ (Wn : World) (j : Nat) (ad : Option Addr) (c : Nat), Wn = W ∧ j ≤ pd ∧ pd - j ≤ gk ∧ t7 = .slice ad (512 + zs.length + j) c ∧ Hid (FO W w.heap.size (.slice ad (512 + zs.length + j) c) (z ++ zs ++ List.replicate j f)) ∧ Hid (Below w.heap.size w W))
  case atStart => exact ⟨_, 0, a3, c3, rfl, Nat.zero_le _, by omega, rfl, FO0, HB03⟩
  case round =>
    obtain ⟨W, j, ad, c, rfl, hj0, hgk, rfl, hFO, hBW⟩ := hrel
    clear FO0 HB03
    have hll : (z ++ zs ++ List.replicate j f).length = 512 + zs.length + j := by have := HLN.out; simp only [List.length_append, List.length_replicate]; omega
    have hsW := hBW.out.size
    by_cases hlt : j < pd
    · have hm : (512 + zs.length + j) % 512 ≠ 0 := by have := HPD.out; omega
      have hm2 : ¬ (512 + (zs.length : Int) + (j : Int)) % 512 = 0 := by omega
      have FO1 : Hid (FO (W.alloc (.cells #[.int .u8 f] 5)) w.heap.size (.slice ad (512 + zs.length + j) c) (z ++ zs ++ List.replicate j f)) := hFO.out.below ((Below.refl _ W).alloc (Nat.le_refl _) _)
      have HBA : Hid (Below w.heap.size w (W.alloc (.cells #[.int .u8 f] 5))) := hBW.out.alloc hsW _
      have hRf : Hid (RIn .u8 (W.alloc (.cells #[.int .u8 f] 5)) (.slice (some ⟨W.heap.size, 0, none⟩) 1 1) [f]) := .inr ⟨_, 1, rfl, Nat.le_refl _, by decide, cell_one_new _ _ _⟩
      have hrep : z ++ zs ++ List.replicate j f ++ [f] = z ++ zs ++ List.replicate (j + 1) f := by rw [List.append_assoc (z ++ zs), List.replicate_succ']
      have HREP : Hid _ := hrep
      have hl1 : (z ++ zs ++ List.replicate j f).length + 1 ≤ 1000000 := by omega
      have hm3 : (z ++ zs ++ List.replicate j f).length % 512 ≠ 0 := by rw [hll]; exact hm
      have hsA : w.heap.size ≤ (W.alloc (.cells #[.int .u8 f] 5)).heap.size := by simp; omega
      have HM3 : Hid _ := hm3
      have HLL : Hid _ := hll
      have HL1 : Hid _ := hl1
      clear HFP HP hFO hrep hm3 hll hl1 hm
      go_wp2_with (at_builtin; refine wpList_fo_one rfl _ _ rfl (xs := z ++ zs ++ List.replicate j f) _ rfl FO1.out HM3.out _ rfl hRf.out HL1.out hsA ?_; intro v4 w4 fo4 b4; rw [HREP.out] at fo4; obtain ⟨a4, c4, rfl⟩ := fo4.sl; have HFO4 : Hid _ := fo4; have HB4 : Hid _ := b4; clear fo4 b4)
      have hl4 : (z ++ zs ++ List.replicate (j + 1) f).length = 512 + zs.length + (j + 1) := by have := HLL.out; simp only [List.length_append, List.length_replicate] at this ⊢; omega
      have FO5 : Hid (FO w4 w.heap.size (.slice a4 (512 + zs.length + (j + 1)) c4) (z ++ zs ++ List.replicate (j + 1) f)) := by rw [← hl4]; exact HFO4.out
      have HB5 : Hid (Below w.heap.size w w4) := HBA.out.trans HB4.out
      have hl5 : z.length + (zs.length + (j + 1)) = 512 + zs.length + (j + 1) := by have := HLN.out; omega
      clear HFO4 HB4 HBA FO1 hRf HLL HL1 HM3 HREP hsA
      try rw [hl5]
      clear hl5 hl4
      go_roundg (pd - (j + 1))
      case rel => exact ⟨_, j + 1, a4, c4, rfl, by omega, Nat.le_refl _, rfl, FO5, HB5⟩
      case measure => omega
    · have hje : j = pd := by omega
      subst hje
      have hm2 : (512 + (zs.length : Int) + (j : Int)) % 512 = 0 := by have := HPD.out; omega
      have hl1 : (z ++ zs ++ List.replicate j f).length + 1024 ≤ 1000000 := by omega
      have HL1 : Hid _ := hl1
      clear hll hl1
      go_upto_region 12 with (first
        | (at_builtin; refine wpList_fo_zeros rfl _ _ rfl _ rfl hFO.out 1024 (by omega) rfl HL1.out hsW ?_; intro v6 w6 r6 b6; rw [← HZ.out] at r6)
        | (go_at_call 11; refine Calls.mono (HFP.out w6 v6 (hBW.out.trans b6) r6) ?_; rintro e7 w7 ⟨tv, rfl, o7, b7, n7⟩)
        | (refine wpList_store_row rfl 27 _ _ rfl _ (arC tv AA) rfl rfl 27 _ (heap_alloc_new w7 _) hsz rfl (arC_one _ (own_one o7)) ?_))
      rw [HAA.out] at o7 ⊢
      have B7 : Below w.heap.size w w7 := (hBW.out.trans b6).trans (b7.mono (hBW.out.trans b6).size)
      obtain ⟨s1, s2, s3⟩ := stored w7 (arC tv (⟨[⟨en, zs, true, 512 + zs.length⟩], false, true, true, 0, 0⟩ : AcE))
      have B8 := B7.trans (s2.mono B7.size)
      have o8 : ThS ((w7.alloc (.cells zAr 27)).setRow w7.heap.size (arC tv (⟨[⟨en, zs, true, 512 + zs.length⟩], false, true, true, 0, 0⟩ : AcE))) tv [(⟨en, zs, true, 512 + zs.length⟩ : ThE)] := own_moved o7 fun k hk => s2.block k (own_lt o7 hk).1
      generalize World.setRow _ _ _ = w8 at *
      generalize w7.heap.size = p9 at *
      obtain ⟨G, cG, rfl, hG, r8⟩ := o8.row 0 (by simp)
      have k10 := r8 10 (.string (strB zs)) (by simp [thCells, E.En.cells])
      have k11 := r8 11 (.bool true) (by simp [thCells, E.En.cells])
      have k12 := r8 12 (.int .i64 (512 + (zs.length : Int))) (by simp [thCells, E.En.cells])
      simp only [Nat.zero_mul, Nat.zero_add] at k10 k11 k12
      have y9 : ∀ i, w8.cell? ⟨p9, i, none⟩ = (#[.slice (some ⟨G, 0, none⟩) 1 cG, .bool true, .int .i64 0, .int .i64 0] : Array Value)[i]? := bx2 s1
      have hcv := HCV.out w8.drew ⟨B8.os, B8.tape, B8.output, B8.size, B8.block⟩
      have hsT := sizeTh
      have hwr : IntKind.i64.wrap (512 + (zs.length : Int)) = 512 + (zs.length : Int) := by rw [IntKind.wrap_i64]; omega
      have HB8 : Hid _ := B8
      clear s1 s2 s3 B7 B8 o7 o8 b6 b7 n7 r6 r8 HFP HCV HRB hFO hBW HL1
      generalize strB zs = sz at *
      refine wp_region_held_drew (S := (fun W' : World => W' = w8.drew)) (by kernel_rfl) rfl (fun hHeld => ?_)
      refine wpAnyH_take (i := 0) (oi := { dst := some 48, op := Op.move (Operand.tmp 10), type := 4, pos := "law.go:203", after := #[], guard := none }) (v := ?_) rfl (by kernel_rfl) (by kernel_rfl) (by kernel_rfl) (fun _ _ _ h => h) (Or.inl ⟨by rfl, ?_⟩) (by assumption) ?_
      rotate_left 1
      · (intro W hSw; subst hSw; go_simp; try with_reducible rfl)
      (try simp only [Act.put, List.setIfInBounds_toArray, List.set_cons_zero, List.set_cons_succ])
      refine wpAnyH_take (i := 1) (oi := { dst := some 49, op := Op.move (Operand.tmp 48), type := 4, pos := "law.go:203", after := #[{ on := 0, ground := Ground.data }], guard := none }) (v := ?_) rfl (by kernel_rfl) (by kernel_rfl) (by kernel_rfl) (fun _ _ _ h => h) (Or.inl ⟨by rfl, ?_⟩) (by assumption) ?_
      rotate_left 1
      · (intro W hSw; subst hSw; go_simp; try with_reducible rfl)
      (try simp only [Act.put, List.setIfInBounds_toArray, List.set_cons_zero, List.set_cons_succ])
      refine wpAnyH_take (i := 2) (oi := { dst := some 50, op := Op.fieldAddr 27 (Operand.tmp 9) 1, type := 0, pos := "law.go:203", after := #[{ on := 1, ground := Ground.guard }], guard := some (1, true) }) (v := ?_) rfl (by kernel_rfl) (by kernel_rfl) (by kernel_rfl) (fun _ _ _ h => h) (Or.inl ⟨by rfl, ?_⟩) (by assumption) ?_
      rotate_left 1
      · (intro W hSw; subst hSw; go_simp; try with_reducible rfl)
      (try simp only [Act.put, List.setIfInBounds_toArray, List.set_cons_zero, List.set_cons_succ])
      refine wpAnyH_take (i := 3) (oi := { dst := some 51, op := Op.load 4 (Operand.tmp 50), type := 4, pos := "law.go:203", after := #[{ on := 2, ground := Ground.data }, { on := 1, ground := Ground.guard }], guard := some (1, true) }) (v := ?_) rfl (by kernel_rfl) (by kernel_rfl) (by kernel_rfl) (fun _ _ _ h => h) (Or.inl ⟨by rfl, ?_⟩) (by assumption) ?_
      rotate_left 1
      · (intro W hSw; subst hSw; go_simp; try with_reducible rfl)
      (try simp only [Act.put, List.setIfInBounds_toArray, List.set_cons_zero, List.set_cons_succ])
      refine wpAnyH_take (i := 4) (oi := { dst := some 52, op := Op.pick (Operand.tmp 49) (Operand.tmp 51) (Operand.const (Value.bool false)), type := 4, pos := "law.go:203", after := #[{ on := 1, ground := Ground.data }, { on := 3, ground := Ground.data }], guard := none }) (v := ?_) rfl (by kernel_rfl) (by kernel_rfl) (by kernel_rfl) (fun _ _ _ h => h) (Or.inl ⟨by rfl, ?_⟩) (by assumption) ?_
      rotate_left 1
      · (intro W hSw; subst hSw; go_simp; try with_reducible rfl)
      (try simp only [Act.put, List.setIfInBounds_toArray, List.set_cons_zero, List.set_cons_succ])
      refine wpAnyH_take (i := 5) (oi := { dst := some 53, op := Op.move (Operand.tmp 52), type := 4, pos := "law.go:203", after := #[{ on := 4, ground := Ground.data }, { on := 1, ground := Ground.chain }], guard := none }) (v := ?_) rfl (by kernel_rfl) (by kernel_rfl) (by kernel_rfl) (fun _ _ _ h => h) (Or.inl ⟨by rfl, ?_⟩) (by assumption) ?_
      rotate_left 1
      · (intro W hSw; subst hSw; go_simp; try with_reducible rfl)
      (try simp only [Act.put, List.setIfInBounds_toArray, List.set_cons_zero, List.set_cons_succ])
      refine wpAnyH_take (i := 6) (oi := { dst := some 54, op := Op.fieldAddr 27 (Operand.tmp 9) 0, type := 0, pos := "law.go:203", after := #[{ on := 5, ground := Ground.guard }], guard := some (5, true) }) (v := ?_) rfl (by kernel_rfl) (by kernel_rfl) (by kernel_rfl) (fun _ _ _ h => h) (Or.inl ⟨by rfl, ?_⟩) (by assumption) ?_
      rotate_left 1
      · (intro W hSw; subst hSw; go_simp; try with_reducible rfl)
      (try simp only [Act.put, List.setIfInBounds_toArray, List.set_cons_zero, List.set_cons_succ])
      refine wpAnyH_take (i := 7) (oi := { dst := some 55, op := Op.load 25 (Operand.tmp 54), type := 25, pos := "law.go:203", after := #[{ on := 6, ground := Ground.data }, { on := 5, ground := Ground.guard }], guard := some (5, true) }) (v := ?_) rfl (by kernel_rfl) (by kernel_rfl) (by kernel_rfl) (fun _ _ _ h => h) (Or.inl ⟨by rfl, ?_⟩) (by assumption) ?_
      rotate_left 1
      · (intro W hSw; subst hSw; go_simp; try with_reducible rfl)
      (try simp only [Act.put, List.setIfInBounds_toArray, List.set_cons_zero, List.set_cons_succ])
      refine wpAnyH_take (i := 8) (oi := { dst := some 56, op := Op.call { callee := Callee.builtin Builtin.len, args := #[Operand.tmp 55], argTypes := #[25] }, type := 3, pos := "law.go:203", after := #[{ on := 7, ground := Ground.data }, { on := 5, ground := Ground.guard }], guard := some (5, true) }) (v := ?_) rfl (by kernel_rfl) (by kernel_rfl) (by kernel_rfl) (fun _ _ _ h => h) (Or.inl ⟨by rfl, ?_⟩) (by assumption) ?_
      rotate_left 1
      · (intro W hSw; subst hSw; go_simp; try with_reducible rfl)
      (try simp only [Act.put, List.setIfInBounds_toArray, List.set_cons_zero, List.set_cons_succ])
      refine wpAnyH_take (i := 9) (oi := { dst := some 57, op := Op.binOp BinOp.eql 3 (Operand.tmp 56) (Operand.const (Value.int IntKind.i64 1)) 3, type := 4, pos := "law.go:203", after := #[{ on := 8, ground := Ground.data }, { on := 5, ground := Ground.guard }], guard := some (5, true) }) (v := ?_) rfl (by kernel_rfl) (by kernel_rfl) (by kernel_rfl) (fun _ _ _ h => h) (Or.inl ⟨by rfl, ?_⟩) (by assumption) ?_
      rotate_left 1
      · (intro W hSw; subst hSw; go_simp; try with_reducible rfl)
      (try simp only [Act.put, List.setIfInBounds_toArray, List.set_cons_zero, List.set_cons_succ])
      refine wpAnyH_take (i := 10) (oi := { dst := some 58, op := Op.pick (Operand.tmp 53) (Operand.tmp 57) (Operand.const (Value.bool false)), type := 4, pos := "law.go:203", after := #[{ on := 5, ground := Ground.data }, { on := 9, ground := Ground.data }], guard := none }) (v := ?_) rfl (by kernel_rfl) (by kernel_rfl) (by kernel_rfl) (fun _ _ _ h => h) (Or.inl ⟨by rfl, ?_⟩) (by assumption) ?_
      rotate_left 1
      · (intro W hSw; subst hSw; go_simp; try with_reducible rfl)
      (try simp only [Act.put, List.setIfInBounds_toArray, List.set_cons_zero, List.set_cons_succ])
      refine wpAnyH_take (i := 11) (oi := { dst := some 59, op := Op.move (Operand.tmp 58), type := 4, pos := "law.go:203", after := #[{ on := 10, ground := Ground.data }, { on := 5, ground := Ground.chain }], guard := none }) (v := ?_) rfl (by kernel_rfl) (by kernel_rfl) (by kernel_rfl) (fun _ _ _ h => h) (Or.inl ⟨by rfl, ?_⟩) (by assumption) ?_
      rotate_left 1
      · (intro W hSw; subst hSw; go_simp; try with_reducible rfl)
      (try simp only [Act.put, List.setIfInBounds_toArray, List.set_cons_zero, List.set_cons_succ])
      refine wpAnyH_take (i := 12) (oi := { dst := some 60, op := Op.fieldAddr 27 (Operand.tmp 9) 0, type := 0, pos := "law.go:203", after := #[{ on := 11, ground := Ground.guard }], guard := some (11, true) }) (v := ?_) rfl (by kernel_rfl) (by kernel_rfl) (by kernel_rfl) (fun _ _ _ h => h) (Or.inl ⟨by rfl, ?_⟩) (by assumption) ?_
      rotate_left 1
      · (intro W hSw; subst hSw; go_simp; try with_reducible rfl)
      (try simp only [Act.put, List.setIfInBounds_toArray, List.set_cons_zero, List.set_cons_succ])
      refine wpAnyH_take (i := 13) (oi := { dst := some 61, op := Op.load 25 (Operand.tmp 60), type := 25, pos := "law.go:203", after := #[{ on := 12, ground := Ground.data }, { on := 11, ground := Ground.guard }], guard := some (11, true) }) (v := ?_) rfl (by kernel_rfl) (by kernel_rfl) (by kernel_rfl) (fun _ _ _ h => h) (Or.inl ⟨by rfl, ?_⟩) (by assumption) ?_
      rotate_left 1
      · (intro W hSw; subst hSw; go_simp; try with_reducible rfl)
      (try simp only [Act.put, List.setIfInBounds_toArray, List.set_cons_zero, List.set_cons_succ])
      refine wpAnyH_take (i := 14) (oi := { dst := some 62, op := Op.indexAddr 25 (Operand.tmp 61) (Operand.const (Value.int IntKind.i64 0)), type := 0, pos := "law.go:203", after := #[{ on := 13, ground := Ground.data }, { on := 11, ground := Ground.guard }], guard := some (11, true) }) (v := ?_) rfl (by kernel_rfl) (by kernel_rfl) (by kernel_rfl) (fun _ _ _ h => h) (Or.inl ⟨by rfl, ?_⟩) (by assumption) ?_
      rotate_left 1
      · (intro W hSw; subst hSw; go_simp; try with_reducible rfl)
      (try simp only [Act.put, List.setIfInBounds_toArray, List.set_cons_zero, List.set_cons_succ])
      refine wpAnyH_take (i := 15) (oi := { dst := some 63, op := Op.fieldAddr 35 (Operand.tmp 62) 1, type := 0, pos := "law.go:203", after := #[{ on := 14, ground := Ground.data }, { on := 11, ground := Ground.guard }], guard := some (11, true) }) (v := ?_) rfl (by kernel_rfl) (by kernel_rfl) (by kernel_rfl) (fun _ _ _ h => h) (Or.inl ⟨by rfl, ?_⟩) (by assumption) ?_
      rotate_left 1
      · (intro W hSw; subst hSw; go_simp; try with_reducible rfl)
      (try simp only [Act.put, List.setIfInBounds_toArray, List.set_cons_zero, List.set_cons_succ])
      refine wpAnyH_take (i := 16) (oi := { dst := some 64, op := Op.load 9 (Operand.tmp 63), type := 9, pos := "law.go:203", after := #[{ on := 15, ground := Ground.data }, { on := 11, ground := Ground.guard }], guard := some (11, true) }) (v := ?_) rfl (by kernel_rfl) (by kernel_rfl) (by kernel_rfl) (fun _ _ _ h => h) (Or.inl ⟨by rfl, ?_⟩) (by assumption) ?_
      rotate_left 1
      · (intro W hSw; subst hSw; go_simp; try with_reducible rfl)
      (try simp only [Act.put, List.setIfInBounds_toArray, List.set_cons_zero, List.set_cons_succ])
      refine wpAnyH_take (i := 17) (oi := { dst := some 65, op := Op.move (Operand.tmp 0), type := 22, pos := "law.go:203", after := #[{ on := 11, ground := Ground.guard }], guard := some (11, true) }) (v := ?_) rfl (by kernel_rfl) (by kernel_rfl) (by kernel_rfl) (fun _ _ _ h => h) (Or.inl ⟨by rfl, ?_⟩) (by assumption) ?_
      rotate_left 1
      · (intro W hSw; subst hSw; go_simp; try with_reducible rfl)
      (try simp only [Act.put, List.setIfInBounds_toArray, List.set_cons_zero, List.set_cons_succ])
      refine wpAnyH_take (i := 18) (oi := { dst := some 66, op := Op.convert 22 9 (Operand.tmp 65), type := 9, pos := "law.go:203", after := #[{ on := 17, ground := Ground.data }, { on := 11, ground := Ground.guard }], guard := some (11, true) }) (v := ?_) rfl (by kernel_rfl) (by kernel_rfl) (by kernel_rfl) (fun _ _ _ h => h) (Or.inl ⟨by rfl, ?_⟩) (by assumption) ?_
      rotate_left 1
      · (intro W hSw; subst hSw; go_simp; try with_reducible rfl)
      (try simp only [Act.put, List.setIfInBounds_toArray, List.set_cons_zero, List.set_cons_succ])
      refine wpAnyH_take (i := 19) (oi := { dst := some 67, op := Op.binOp BinOp.eql 9 (Operand.tmp 64) (Operand.tmp 66) 9, type := 4, pos := "law.go:203", after := #[{ on := 16, ground := Ground.data }, { on := 18, ground := Ground.data }, { on := 11, ground := Ground.guard }], guard := some (11, true) }) (v := ?_) rfl (by kernel_rfl) (by kernel_rfl) (by kernel_rfl) (fun _ _ _ h => h) (Or.inl ⟨by rfl, ?_⟩) (by assumption) ?_
      rotate_left 1
      · (intro W hSw; subst hSw; go_simp; try with_reducible rfl)
      (try simp only [Act.put, List.setIfInBounds_toArray, List.set_cons_zero, List.set_cons_succ])
      refine wpAnyH_take (i := 20) (oi := { dst := some 68, op := Op.pick (Operand.tmp 59) (Operand.tmp 67) (Operand.const (Value.bool false)), type := 4, pos := "law.go:203", after := #[{ on := 11, ground := Ground.data }, { on := 19, ground := Ground.data }], guard := none }) (v := ?_) rfl (by kernel_rfl) (by kernel_rfl) (by kernel_rfl) (fun _ _ _ h => h) (Or.inl ⟨by rfl, ?_⟩) (by assumption) ?_
      rotate_left 1
      · (intro W hSw; subst hSw; go_simp; try with_reducible rfl)
      (try simp only [Act.put, List.setIfInBounds_toArray, List.set_cons_zero, List.set_cons_succ])
      refine wpAnyH_take (i := 21) (oi := { dst := some 69, op := Op.move (Operand.tmp 68), type := 4, pos := "law.go:203", after := #[{ on := 20, ground := Ground.data }, { on := 11, ground := Ground.chain }], guard := none }) (v := ?_) rfl (by kernel_rfl) (by kernel_rfl) (by kernel_rfl) (fun _ _ _ h => h) (Or.inl ⟨by rfl, ?_⟩) (by assumption) ?_
      rotate_left 1
      · (intro W hSw; subst hSw; go_simp; try with_reducible rfl)
      (try simp only [Act.put, List.setIfInBounds_toArray, List.set_cons_zero, List.set_cons_succ])
      refine wpAnyH_take (i := 22) (oi := { dst := some 70, op := Op.fieldAddr 27 (Operand.tmp 9) 0, type := 0, pos := "law.go:203", after := #[{ on := 21, ground := Ground.guard }], guard := some (21, true) }) (v := ?_) rfl (by kernel_rfl) (by kernel_rfl) (by kernel_rfl) (fun _ _ _ h => h) (Or.inl ⟨by rfl, ?_⟩) (by assumption) ?_
      rotate_left 1
      · (intro W hSw; subst hSw; go_simp; try with_reducible rfl)
      (try simp only [Act.put, List.setIfInBounds_toArray, List.set_cons_zero, List.set_cons_succ])
      refine wpAnyH_take (i := 23) (oi := { dst := some 71, op := Op.load 25 (Operand.tmp 70), type := 25, pos := "law.go:203", after := #[{ on := 22, ground := Ground.data }, { on := 21, ground := Ground.guard }], guard := some (21, true) }) (v := ?_) rfl (by kernel_rfl) (by kernel_rfl) (by kernel_rfl) (fun _ _ _ h => h) (Or.inl ⟨by rfl, ?_⟩) (by assumption) ?_
      rotate_left 1
      · (intro W hSw; subst hSw; go_simp; try with_reducible rfl)
      (try simp only [Act.put, List.setIfInBounds_toArray, List.set_cons_zero, List.set_cons_succ])
      refine wpAnyH_take (i := 24) (oi := { dst := some 72, op := Op.indexAddr 25 (Operand.tmp 71) (Operand.const (Value.int IntKind.i64 0)), type := 0, pos := "law.go:203", after := #[{ on := 23, ground := Ground.data }, { on := 21, ground := Ground.guard }], guard := some (21, true) }) (v := ?_) rfl (by kernel_rfl) (by kernel_rfl) (by kernel_rfl) (fun _ _ _ h => h) (Or.inl ⟨by rfl, ?_⟩) (by assumption) ?_
      rotate_left 1
      · (intro W hSw; subst hSw; go_simp; try with_reducible rfl)
      (try simp only [Act.put, List.setIfInBounds_toArray, List.set_cons_zero, List.set_cons_succ])
      refine wpAnyH_take (i := 25) (oi := { dst := some 73, op := Op.fieldAddr 35 (Operand.tmp 72) 2, type := 0, pos := "law.go:203", after := #[{ on := 24, ground := Ground.data }, { on := 21, ground := Ground.guard }], guard := some (21, true) }) (v := ?_) rfl (by kernel_rfl) (by kernel_rfl) (by kernel_rfl) (fun _ _ _ h => h) (Or.inl ⟨by rfl, ?_⟩) (by assumption) ?_
      rotate_left 1
      · (intro W hSw; subst hSw; go_simp; try with_reducible rfl)
      (try simp only [Act.put, List.setIfInBounds_toArray, List.set_cons_zero, List.set_cons_succ])
      refine wpAnyH_take (i := 26) (oi := { dst := some 74, op := Op.load 4 (Operand.tmp 73), type := 4, pos := "law.go:203", after := #[{ on := 25, ground := Ground.data }, { on := 21, ground := Ground.guard }], guard := some (21, true) }) (v := ?_) rfl (by kernel_rfl) (by kernel_rfl) (by kernel_rfl) (fun _ _ _ h => h) (Or.inl ⟨by rfl, ?_⟩) (by assumption) ?_
      rotate_left 1
      · (intro W hSw; subst hSw; go_simp; try with_reducible rfl)
      (try simp only [Act.put, List.setIfInBounds_toArray, List.set_cons_zero, List.set_cons_succ])
      refine wpAnyH_take (i := 27) (oi := { dst := some 75, op := Op.pick (Operand.tmp 69) (Operand.tmp 74) (Operand.const (Value.bool false)), type := 4, pos := "law.go:203", after := #[{ on := 21, ground := Ground.data }, { on := 26, ground := Ground.data }], guard := none }) (v := ?_) rfl (by kernel_rfl) (by kernel_rfl) (by kernel_rfl) (fun _ _ _ h => h) (Or.inl ⟨by rfl, ?_⟩) (by assumption) ?_
      rotate_left 1
      · (intro W hSw; subst hSw; go_simp; try with_reducible rfl)
      (try simp only [Act.put, List.setIfInBounds_toArray, List.set_cons_zero, List.set_cons_succ])
      refine wpAnyH_take (i := 28) (oi := { dst := some 76, op := Op.move (Operand.tmp 75), type := 4, pos := "law.go:203", after := #[{ on := 27, ground := Ground.data }, { on := 21, ground := Ground.chain }], guard := none }) (v := ?_) rfl (by kernel_rfl) (by kernel_rfl) (by kernel_rfl) (fun _ _ _ h => h) (Or.inl ⟨by rfl, ?_⟩) (by assumption) ?_
      rotate_left 1
      · (intro W hSw; subst hSw; go_simp; try with_reducible rfl)
      (try simp only [Act.put, List.setIfInBounds_toArray, List.set_cons_zero, List.set_cons_succ])
      refine wpAnyH_take (i := 29) (oi := { dst := some 77, op := Op.fieldAddr 27 (Operand.tmp 9) 0, type := 0, pos := "law.go:203", after := #[{ on := 28, ground := Ground.guard }], guard := some (28, true) }) (v := ?_) rfl (by kernel_rfl) (by kernel_rfl) (by kernel_rfl) (fun _ _ _ h => h) (Or.inl ⟨by rfl, ?_⟩) (by assumption) ?_
      rotate_left 1
      · (intro W hSw; subst hSw; go_simp; try with_reducible rfl)
      (try simp only [Act.put, List.setIfInBounds_toArray, List.set_cons_zero, List.set_cons_succ])
      refine wpAnyH_take (i := 30) (oi := { dst := some 78, op := Op.load 25 (Operand.tmp 77), type := 25, pos := "law.go:203", after := #[{ on := 29, ground := Ground.data }, { on := 28, ground := Ground.guard }], guard := some (28, true) }) (v := ?_) rfl (by kernel_rfl) (by kernel_rfl) (by kernel_rfl) (fun _ _ _ h => h) (Or.inl ⟨by rfl, ?_⟩) (by assumption) ?_
      rotate_left 1
      · (intro W hSw; subst hSw; go_simp; try with_reducible rfl)
      (try simp only [Act.put, List.setIfInBounds_toArray, List.set_cons_zero, List.set_cons_succ])
      refine wpAnyH_take (i := 31) (oi := { dst := some 79, op := Op.indexAddr 25 (Operand.tmp 78) (Operand.const (Value.int IntKind.i64 0)), type := 0, pos := "law.go:203", after := #[{ on := 30, ground := Ground.data }, { on := 28, ground := Ground.guard }], guard := some (28, true) }) (v := ?_) rfl (by kernel_rfl) (by kernel_rfl) (by kernel_rfl) (fun _ _ _ h => h) (Or.inl ⟨by rfl, ?_⟩) (by assumption) ?_
      rotate_left 1
      · (intro W hSw; subst hSw; go_simp; try with_reducible rfl)
      (try simp only [Act.put, List.setIfInBounds_toArray, List.set_cons_zero, List.set_cons_succ])
      refine wpAnyH_take (i := 32) (oi := { dst := some 80, op := Op.fieldAddr 35 (Operand.tmp 79) 3, type := 0, pos := "law.go:203", after := #[{ on := 31, ground := Ground.data }, { on := 28, ground := Ground.guard }], guard := some (28, true) }) (v := ?_) rfl (by kernel_rfl) (by kernel_rfl) (by kernel_rfl) (fun _ _ _ h => h) (Or.inl ⟨by rfl, ?_⟩) (by assumption) ?_
      rotate_left 1
      · (intro W hSw; subst hSw; go_simp; try with_reducible rfl)
      (try simp only [Act.put, List.setIfInBounds_toArray, List.set_cons_zero, List.set_cons_succ])
      refine wpAnyH_take (i := 33) (oi := { dst := some 81, op := Op.load 3 (Operand.tmp 80), type := 3, pos := "law.go:203", after := #[{ on := 32, ground := Ground.data }, { on := 28, ground := Ground.guard }], guard := some (28, true) }) (v := ?_) rfl (by kernel_rfl) (by kernel_rfl) (by kernel_rfl) (fun _ _ _ h => h) (Or.inl ⟨by rfl, ?_⟩) (by assumption) ?_
      rotate_left 1
      · (intro W hSw; subst hSw; go_simp; try with_reducible rfl)
      (try simp only [Act.put, List.setIfInBounds_toArray, List.set_cons_zero, List.set_cons_succ])
      refine wpAnyH_take (i := 34) (oi := { dst := some 82, op := Op.move (Operand.tmp 0), type := 22, pos := "law.go:203", after := #[{ on := 28, ground := Ground.guard }], guard := some (28, true) }) (v := ?_) rfl (by kernel_rfl) (by kernel_rfl) (by kernel_rfl) (fun _ _ _ h => h) (Or.inl ⟨by rfl, ?_⟩) (by assumption) ?_
      rotate_left 1
      · (intro W hSw; subst hSw; go_simp; try with_reducible rfl)
      (try simp only [Act.put, List.setIfInBounds_toArray, List.set_cons_zero, List.set_cons_succ])
      refine wpAnyH_take (i := 35) (oi := { dst := some 83, op := Op.call { callee := Callee.builtin Builtin.len, args := #[Operand.tmp 82], argTypes := #[22] }, type := 3, pos := "law.go:203", after := #[{ on := 34, ground := Ground.data }, { on := 28, ground := Ground.guard }], guard := some (28, true) }) (v := ?_) rfl (by kernel_rfl) (by kernel_rfl) (by kernel_rfl) (fun _ _ _ h => h) (Or.inl ⟨by rfl, ?_⟩) (by assumption) ?_
      rotate_left 1
      · (intro W hSw; subst hSw; go_simp; try with_reducible rfl)
      (try simp only [Act.put, List.setIfInBounds_toArray, List.set_cons_zero, List.set_cons_succ])
      refine wpAnyH_take (i := 36) (oi := { dst := some 84, op := Op.binOp BinOp.add 3 (Operand.const (Value.int IntKind.i64 512)) (Operand.tmp 83) 3, type := 3, pos := "law.go:203", after := #[{ on := 35, ground := Ground.data }, { on := 28, ground := Ground.guard }], guard := some (28, true) }) (v := ?_) rfl (by kernel_rfl) (by kernel_rfl) (by kernel_rfl) (fun _ _ _ h => h) (Or.inl ⟨by rfl, ?_⟩) (by assumption) ?_
      rotate_left 1
      · (intro W hSw; subst hSw; go_simp; try with_reducible rfl)
      (try simp only [Act.put, List.setIfInBounds_toArray, List.set_cons_zero, List.set_cons_succ])
      refine wpAnyH_take (i := 37) (oi := { dst := some 85, op := Op.binOp BinOp.eql 3 (Operand.tmp 81) (Operand.tmp 84) 3, type := 4, pos := "law.go:203", after := #[{ on := 33, ground := Ground.data }, { on := 36, ground := Ground.data }, { on := 28, ground := Ground.guard }], guard := some (28, true) }) (v := ?_) rfl (by kernel_rfl) (by kernel_rfl) (by kernel_rfl) (fun _ _ _ h => h) (Or.inl ⟨by rfl, ?_⟩) (by assumption) ?_
      rotate_left 1
      · (intro W hSw; subst hSw; go_simp; try with_reducible rfl)
      (try simp only [Act.put, List.setIfInBounds_toArray, List.set_cons_zero, List.set_cons_succ])
      refine wpAnyH_take (i := 38) (oi := { dst := some 86, op := Op.pick (Operand.tmp 76) (Operand.tmp 85) (Operand.const (Value.bool false)), type := 4, pos := "law.go:203", after := #[{ on := 28, ground := Ground.data }, { on := 37, ground := Ground.data }], guard := none }) (v := ?_) rfl (by kernel_rfl) (by kernel_rfl) (by kernel_rfl) (fun _ _ _ h => h) (Or.inl ⟨by rfl, ?_⟩) (by assumption) ?_
      rotate_left 1
      · (intro W hSw; subst hSw; go_simp; try with_reducible rfl)
      (try simp only [Act.put, List.setIfInBounds_toArray, List.set_cons_zero, List.set_cons_succ])
      refine wpAnyH_take (i := 39) (oi := { dst := some 6, op := Op.assign (Operand.tmp 86), type := 4, pos := "law.go:203", after := #[{ on := 38, ground := Ground.data }, { on := 28, ground := Ground.chain }, { on := 0, ground := Ground.phase }, { on := 1, ground := Ground.phase }, { on := 2, ground := Ground.phase }, { on := 3, ground := Ground.phase }, { on := 4, ground := Ground.phase }, { on := 5, ground := Ground.phase }, { on := 6, ground := Ground.phase }, { on := 7, ground := Ground.phase }, { on := 8, ground := Ground.phase }, { on := 9, ground := Ground.phase }, { on := 10, ground := Ground.phase }, { on := 11, ground := Ground.phase }, { on := 12, ground := Ground.phase }, { on := 13, ground := Ground.phase }, { on := 14, ground := Ground.phase }, { on := 15, ground := Ground.phase }, { on := 16, ground := Ground.phase }, { on := 17, ground := Ground.phase }, { on := 18, ground := Ground.phase }, { on := 19, ground := Ground.phase }, { on := 20, ground := Ground.phase }, { on := 21, ground := Ground.phase }, { on := 22, ground := Ground.phase }, { on := 23, ground := Ground.phase }, { on := 24, ground := Ground.phase }, { on := 25, ground := Ground.phase }, { on := 26, ground := Ground.phase }, { on := 27, ground := Ground.phase }, { on := 28, ground := Ground.phase }, { on := 29, ground := Ground.phase }, { on := 30, ground := Ground.phase }, { on := 31, ground := Ground.phase }, { on := 32, ground := Ground.phase }, { on := 33, ground := Ground.phase }, { on := 34, ground := Ground.phase }, { on := 35, ground := Ground.phase }, { on := 36, ground := Ground.phase }, { on := 37, ground := Ground.phase }, { on := 38, ground := Ground.phase }], guard := none }) (v := ?_) rfl (by kernel_rfl) (by kernel_rfl) (by kernel_rfl) (fun _ _ _ h => h) (Or.inl ⟨by rfl, ?_⟩) (by assumption) ?_
      rotate_left 1
      · (intro W hSw; subst hSw; go_simp; try with_reducible rfl)
      (try simp only [Act.put, List.setIfInBounds_toArray, List.set_cons_zero, List.set_cons_succ])
      refine wpAnyH_done (by kernel_rfl) ?_ _
      go_wp2_with fail
      exact HP.out _ ⟨HB8.out.os, HB8.out.tape, HB8.out.output, HB8.out.size, HB8.out.block⟩
end Go.Proofs.YtnmmaedngdibeaaGreatDoor
