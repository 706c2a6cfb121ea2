/-
  The walk of PushEnds.
-/
import Derived.Test.YtnmmaedngdibeaaGreatDoorRb
import Derived.Test.YtnmmaedngdibeaaGreatDoorQw
namespace Go.Proofs.YtnmmaedngdibeaaGreatDoor
open Go.RowKit
set_option linter.unusedVariables false
set_option linter.unusedSimpArgs false

theorem rin_take {k : IntKind} {W : World} {ad : Option Addr} {zs : List Int} {c : Nat} (h : RIn k W (.slice ad zs.length c) zs) (n : Nat) (hn : n ≤ zs.length) : RIn k W (.slice ad n c) (zs.take n) := by
  have hl : (zs.take n).length = n := by rw [List.length_take]; omega
  rcases h with ⟨e, rfl⟩ | ⟨a, c', e, e2, e3, e4⟩
  · obtain rfl : n = 0 := by simpa using hn
    exact .inl ⟨e, rfl⟩
  · cases e
    refine .inr ⟨a, c, by rw [hl], by omega, e3, fun j u hj => e4 j u ?_⟩
    rw [List.map_take, List.getElem?_take] at hj
    split at hj
    · exact hj
    · cases hj
theorem rin_cap {k : IntKind} {W : World} {ad : Option Addr} {zs : List Int} {c : Nat} (h : RIn k W (.slice ad zs.length c) zs) : zs.length ≤ c := by
  rcases h with ⟨e, rfl⟩ | ⟨a, c', e, e2, e3, e4⟩
  · simp
  · cases e; exact e2
abbrev zTh : Array Value := #[.string ⟨#[]⟩, .string ⟨#[]⟩, .int .i64 0, .int .i64 0, .int .i64 0, .int .i64 0, .int .i64 0, .int .i64 0, .string ⟨#[]⟩, .string ⟨#[]⟩, .string ⟨#[]⟩, .bool false, .int .i64 0]
theorem storedT (w : World) (C : Array Value) : ((w.alloc (.cells zTh 35)).setRow w.heap.size C).heap[w.heap.size]? = some (.cells C 35 (0, 0)) ∧ Below w.heap.size w ((w.alloc (.cells zTh 35)).setRow w.heap.size C) ∧ ((w.alloc (.cells zTh 35)).setRow w.heap.size C).heap.size = w.heap.size + 1 :=
  ⟨setRow_heap _ _ _ _ _ _ (heap_alloc_new w _), below_setRow ((Below.refl _ w).alloc (Nat.le_refl _) _) (Nat.le_refl _) _, by simp⟩
theorem th_all (t : ThE) : (thCells t).toArray.all (·.oneCell') = true := all_oneCell_toArray (th_one t)
theorem box_cells {W : World} {p : Nat} {L : List Value} {ty : TypeId} (h : W.heap[p]? = some (.cells L.toArray ty (0, 0))) : ∀ j u, L[j]? = some u → W.cell? ⟨p, 0 + j, none⟩ = some u := fun j u hj => by
  simp only [World.cell?, h, Nat.zero_add]
  simpa using hj
theorem box_cells2 {W : World} {p : Nat} {C : Array Value} {ty : TypeId} (h : W.heap[p]? = some (.cells C ty (0, 0))) : ∀ i, W.cell? ⟨p, i, none⟩ = C[i]? := fun i => by
  simp only [World.cell?, h]
  rfl

set_option maxRecDepth 100000 in
set_option maxHeartbeats 8000000 in
theorem ends_w (w : World) (vb : Value) (zs : List Int) (cut : Int) (hb : RIn .u8 w vb zs) (hA : H.AllB zs) (hL : Lb w) (hF : F.Laid w) :
    Calls Tryz.prog 4 #[vb, .int .i64 cut] w fun e w' => e = .returned (.bool true) ∧ Below w.heap.size w w' := by
  obtain ⟨PP, hPP⟩ : ∃ PP : Ending → World → Prop, PP = fun e w' => e = .returned (.bool true) ∧ Below w.heap.size w w' := ⟨_, rfl⟩
  rw [← hPP]
  have HP : Hid (∀ W, Below w.heap.size w W → PP (.returned (.bool true)) W) := fun W b => by rw [hPP]; exact ⟨rfl, b⟩
  clear hPP
  have q0 := reads_w w hL
  obtain ⟨ad0, c0, rfl⟩ := hb.sl
  by_cases l0 : (20000 : Int) < (zs.length : Int)
  · clear hb hA hL hF
    go_enter Tryz.func4, Tryz.ntmps4
    go_wp2_with (go_at_call 10; refine q0.mono ?_; rintro e w1 ⟨rfl, b1⟩)
    exact HP.out _ b1
  by_cases l1 : cut < 0
  · clear hb hA hL hF
    go_enter Tryz.func4, Tryz.ntmps4
    go_wp2_with (go_at_call 10; refine q0.mono ?_; rintro e w1 ⟨rfl, b1⟩)
    exact HP.out _ b1
  by_cases l2 : (zs.length : Int) < cut
  · clear hb hA hL hF
    go_enter Tryz.func4, Tryz.ntmps4
    go_wp2_with (go_at_call 10; refine q0.mono ?_; rintro e w1 ⟨rfl, b1⟩)
    exact HP.out _ b1
  obtain ⟨n, rfl⟩ : ∃ n : Nat, cut = (n : Int) := ⟨cut.toNat, by omega⟩
  have hcap := rin_cap hb
  have hsl := fun W => X.run_high W ad0 zs.length c0 n (by omega)
  have HFD : Hid (∀ W, Below w.heap.size w W → Calls Tryz.prog 11 #[.slice ad0 zs.length c0, .slice none 0 0] W fun e w' => ∃ tv, e = .returned (.tuple #[.agg (arC tv (finA zs)), .bool true]) ∧ ThS w' tv (finA zs).ts ∧ Below W.heap.size W w' ∧ ∀ k, tv.ownBlock = some k → W.heap.size ≤ k) := fun W b =>
    fed_w W _ _ zs [] (hb.below b) (.inl ⟨rfl, rfl⟩) hA (by omega) (by simp) (hL.below b) (hF.below b)
  have HFC : Hid (∀ W, Below w.heap.size w W → Calls Tryz.prog 11 #[.slice ad0 n c0, .slice none 0 0] W fun e w' => ∃ tv, e = .returned (.tuple #[.agg (arC tv (finA (zs.take n))), .bool true]) ∧ ThS w' tv (finA (zs.take n)).ts ∧ Below W.heap.size W w' ∧ ∀ k, tv.ownBlock = some k → W.heap.size ≤ k) := fun W b =>
    fed_w W _ _ (zs.take n) [] (rin_take (hb.below b) n (by omega)) (.inl ⟨rfl, rfl⟩) (fun z hz => hA z (List.mem_of_mem_take hz)) (by rw [List.length_take]; omega) (by simp) (hL.below b) (hF.below b)
  have hbg : Pu.Begins (finA (zs.take n)) (finA zs) := by
    have h := Pu.arch_begins fns0 (zs.take n) (zs.drop n)
    rw [List.take_append_drop] at h
    have d1 : ∀ z : List Int, (finA z).dn = (Pu.arch fns0 z).dn := fun z => by unfold finA; split <;> rfl
    exact ⟨fun i t ht => by rw [finA_ts] at ht ⊢; exact h.ts i t ht, by rw [d1, d1]; exact h.dn⟩
  have hlen := hbg.len
  have hln := finA_len zs hA
  generalize finA (zs.take n) = A2 at *
  generalize finA zs = A1 at *
  have HBG : Hid _ := hbg
  have hzA := zeroAr
  have hzT := zeroTh
  have hsz := sizeAr
  have hlen' : ¬ (A1.ts.length : Int) < (A2.ts.length : Int) := by omega
  have hlen2 : ¬ A1.ts.length < A2.ts.length := by omega
  clear hb hA hL hF hbg hcap
  go_enter Tryz.func4, Tryz.ntmps4
  go_upto_region 5 with (go_at_call 10; refine q0.mono ?_; rintro e w1 ⟨rfl, b1⟩)
  go_upto_region 6 with (first
    | (go_at_call 11; refine Calls.mono (HFD.out _ b1) ?_; rintro e w2 ⟨tv1, rfl, o1, b2, n2⟩)
    | (refine wpList_store_row rfl 27 _ _ rfl _ (arC tv1 A1) rfl rfl 27 _ (heap_alloc_new w2 _) hsz rfl (arC_one _ (own_one o1)) ?_))
  obtain ⟨s1, s2, s3⟩ := stored w2 (arC tv1 A1)
  have B3 : Below w.heap.size w ((w2.alloc (.cells zAr 27)).setRow w2.heap.size (arC tv1 A1)) := (b1.trans (b2.mono b1.size)).trans (s2.mono (b1.trans (b2.mono b1.size)).size)
  have O3 : ThS ((w2.alloc (.cells zAr 27)).setRow w2.heap.size (arC tv1 A1)) tv1 A1.ts := own_moved o1 fun k hk => s2.block k (own_lt o1 hk).1
  generalize World.setRow _ _ _ = w3 at *
  generalize w2.heap.size = p1 at *
  have HS1 : Hid _ := s1
  have HB3 : Hid _ := B3
  have HO3 : Hid _ := O3
  have hp1 : p1 < w3.heap.size := by omega
  clear s1 s2 s3 B3 O3 o1 b2 n2 b1 HFD
  go_upto_region 7 with (first
    | (go_at_call 11; refine Calls.mono (HFC.out _ HB3.out) ?_; rintro e w4 ⟨tv2, rfl, o2, b4, n4⟩)
    | (refine wpList_store_row rfl 27 _ _ rfl _ (arC tv2 A2) rfl rfl 27 _ (heap_alloc_new w4 _) hsz rfl (arC_one _ (own_one o2)) ?_))
  obtain ⟨s1, s2, s3⟩ := stored w4 (arC tv2 A2)
  have B45 := b4.trans (s2.mono b4.size)
  have O5 : ThS ((w4.alloc (.cells zAr 27)).setRow w4.heap.size (arC tv2 A2)) tv2 A2.ts := own_moved o2 fun k hk => s2.block k (own_lt o2 hk).1
  generalize World.setRow _ _ _ = w5 at *
  generalize w4.heap.size = p2 at *
  have HS2 : Hid _ := s1
  have HS15 : Hid _ := (B45.block p1 hp1).trans HS1.out
  have HO15 : Hid (ThS w5 tv1 A1.ts) := own_moved HO3.out fun k hk => B45.block k (own_lt HO3.out hk).1
  have HB5 : Hid (Below w.heap.size w w5) := HB3.out.trans (B45.mono HB3.out.size)
  have HO5 : Hid (ThS w5 tv2 A2.ts) := O5
  have hp2 : p2 < w5.heap.size := by omega
  have hp15 : p1 < w5.heap.size := by have := B45.size; omega
  clear s1 s2 s3 O5 o2 b4 n4 HFC HS1 HO3 HB3 B45 hp1
  obtain ⟨a1, k1, rfl, _⟩ := own_sl HO15.out
  obtain ⟨a2, k2, rfl, _⟩ := own_sl HO5.out
  have y51 : ∀ i, w5.cell? ⟨p1, i, none⟩ = (#[.slice a1 A1.ts.length k1, .bool A1.dn, .int .i64 A1.code, .int .i64 A1.place] : Array Value)[i]? := box_cells2 HS15.out
  have y52 : ∀ i, w5.cell? ⟨p2, i, none⟩ = (#[.slice a2 A2.ts.length k2, .bool A2.dn, .int .i64 A2.code, .int .i64 A2.place] : Array Value)[i]? := box_cells2 HS2.out
  go_wp2_with fail
  have HB55 : Hid (Below w5.heap.size w5 w5) := Below.refl _ _
  have hsT := sizeTh
  clear y51 y52
  go_loopg [57] A2.ts.length (fun gk t57 W => ∃ (Wn : World) (i : Nat), Wn = W ∧ i ≤ A2.ts.length ∧ A2.ts.length - i ≤ gk ∧ t57 = .int .i64 (i : Int) ∧ Hid (Below w5.heap.size w5 W))
  case atStart => exact ⟨_, 0, rfl, Nat.zero_le _, by omega, rfl, HB55⟩
  case round =>
    obtain ⟨W, i, rfl, hi0, hgk, rfl, HBW⟩ := hrel
    have y51 : ∀ i, W.cell? ⟨p1, i, none⟩ = (#[.slice a1 A1.ts.length k1, .bool A1.dn, .int .i64 A1.code, .int .i64 A1.place] : Array Value)[i]? := box_cells2 ((HBW.out.block p1 hp15).trans HS15.out)
    have y52 : ∀ i, W.cell? ⟨p2, i, none⟩ = (#[.slice a2 A2.ts.length k2, .bool A2.dn, .int .i64 A2.code, .int .i64 A2.place] : Array Value)[i]? := box_cells2 ((HBW.out.block p2 hp2).trans HS2.out)
    by_cases hlt : i < A2.ts.length
    · have hlt1 : (i : Int) < (A2.ts.length : Int) := by omega
      have hlt2 : (i : Int) < (A1.ts.length : Int) := by omega
      obtain ⟨G2, d2, e2, g2, r2⟩ := HO5.out.row i hlt
      obtain ⟨G1, d1, e1, g1, r1⟩ := HO15.out.row i (by omega)
      cases e1
      cases e2
      have m1 : Hid (W.rangeAt G1 (i * 13) (thCells A1.ts[i])) := range_moved r1 (HBW.out.block G1 g1)
      have m2 : Hid (W.rangeAt G2 (i * 13) (thCells A2.ts[i])) := range_moved r2 (HBW.out.block G2 g2)
      obtain ⟨x, hx1, hx2, hx3, hx4⟩ := HBG.out.ts i _ (List.getElem?_eq_getElem hlt)
      have hx5 : A1.ts[i] = x := by have := List.getElem?_eq_getElem (l := A1.ts) (i := i) (by omega); rw [hx1] at this; exact (Option.some.inj this).symm
      rw [hx5] at m1
      have HX2 : Hid _ := hx2
      have HX3 : Hid _ := hx3
      have HX4 : Hid _ := hx4
      generalize A2.ts[i] = t at *
      clear hx1 hx2 hx3 hx4 hx5 r1 r2 HO5 HO15 HP HBG y52
      go_upto_region 12 with (first
        | (refine wpList_load_mid rfl 35 _ rfl G2 _ rfl (thCells t) _ m2.out Tryz.underlying35 rfl hsT ?_)
        | (refine wpList_store_row rfl 35 _ _ rfl _ (thCells t).toArray rfl rfl 35 _ (heap_alloc_new W _) hsT rfl (th_all t) ?_))
      obtain ⟨s1, s2, s3⟩ := storedT W (thCells t).toArray
      have B6 := HBW.out.trans (s2.mono HBW.out.size)
      have y61 : ∀ i, ((W.alloc (.cells zTh 35)).setRow W.heap.size (thCells t).toArray).cell? ⟨p1, i, none⟩ = (#[.slice (some ⟨G1, 0, none⟩) A1.ts.length k1, .bool A1.dn, .int .i64 A1.code, .int .i64 A1.place] : Array Value)[i]? := box_cells2 ((B6.block p1 hp15).trans HS15.out)
      have m16 : Hid (((W.alloc (.cells zTh 35)).setRow W.heap.size (thCells t).toArray).rangeAt G1 (i * 13) (thCells x)) := range_moved m1.out (s2.block G1 (by have := HBW.out.size; omega))
      generalize World.setRow _ _ _ = w6 at *
      generalize W.heap.size = q1 at *
      have HS6 : Hid _ := s1
      have HB6 : Hid (Below w5.heap.size w5 w6) := B6
      have hq1 : q1 < w6.heap.size := by omega
      clear s1 s2 s3 B6 m1 m2 y51
      go_upto_region 13 with (first
        | (refine wpList_load_mid rfl 35 _ rfl G1 _ rfl (thCells x) _ m16.out Tryz.underlying35 rfl hsT ?_)
        | (refine wpList_store_row rfl 35 _ _ rfl _ (thCells x).toArray rfl rfl 35 _ (heap_alloc_new w6 _) hsT rfl (th_all x) ?_))
      obtain ⟨s1, s2, s3⟩ := storedT w6 (thCells x).toArray
      have B7 := HB6.out.trans (s2.mono HB6.out.size)
      have S6 := (s2.block q1 hq1).trans HS6.out
      generalize World.setRow _ _ _ = w7 at *
      generalize w6.heap.size = q2 at *
      have HB7 : Hid (Below w5.heap.size w5 w7) := B7
      refine reg13_w w7 q1 q2 t x (box_cells S6) (box_cells s1) HX2.out HX3.out HX4.out _ _ _ _ _ _ _ _ _ _ _ _ _ _ _ _ _ _ _ _ _ _ _ _ _ _ _ _ _ _ _ _ _ _ _ _ _ _ _ _ _ _ _ _ _ _ _ _ _ _ _ _ _ _ _ _ _ _ _ _ _ _ _ _ _ _ _ _ _ _ _ _ _ _ _ _ _ _ _ _ _ _ _ _ _ _ _ _ _ _ _ _ _ _ _ _ _ _ _ _ _ _ _ _ _ _ _ _ ?_
      clear s1 s2 s3 B7 S6 HS6 HB6 m16 y61 HX2 HX3 HX4
      intro x67 x68 x69 x70 x71 x72 x73 x74 x75 x76 x77 x78 x79 x80 x81 x82 x83 x84 x85 x86 x87 x88 x89 x90 x91 x92 x93 x94 x95 x96 x97 x98 x99
      go_wp2_with fail
      go_roundg (A2.ts.length - (i + 1))
      case rel => exact ⟨_, i + 1, rfl, by omega, Nat.le_refl _, by simp, ⟨HB7.out.os, HB7.out.tape, HB7.out.output, HB7.out.size, HB7.out.block⟩⟩
      case measure => omega
    · have hie : i = A2.ts.length := by omega
      subst hie
      have F := HP.out W (HB5.out.trans (HBW.out.mono HB5.out.size))
      have HF : Hid _ := F
      have hdn := HBG.out.dn
      clear HP F HBG HO5 HO15
      cases h2 : A2.dn with
      | true =>
        rw [h2] at y52
        rw [hdn h2] at y51
        clear hdn h2
        go_wp2_with fail
        exact HF.out
      | false =>
        rw [h2] at y52
        clear hdn h2
        go_wp2_with fail
        exact HF.out
end Go.Proofs.YtnmmaedngdibeaaGreatDoor
