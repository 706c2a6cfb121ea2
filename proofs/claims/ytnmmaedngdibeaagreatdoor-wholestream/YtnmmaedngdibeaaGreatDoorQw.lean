/-
  The walk of PushPieces.
-/
import Derived.Test.YtnmmaedngdibeaaGreatDoorRall
namespace Go.Proofs.YtnmmaedngdibeaaGreatDoor
open Go.RowKit
set_option linter.unusedVariables false
set_option linter.unusedSimpArgs false

theorem bytes_len (xs : List Int) : (xs.map fun z => Value.int .u8 z).length = xs.length * 1 := by simp
theorem bytes_one (xs : List Int) : ∀ u ∈ (xs.map fun z => Value.int .u8 z), u.oneCell' = true := by
  intro u hu
  obtain ⟨z, _, rfl⟩ := List.mem_map.1 hu
  rfl
/-- 'append(v, more...)' of bytes -/
theorem wpList_append_u8s {ops : Array Oper} {rest : List Oper} {o : Oper} {a : Act} {Q : Exit → Act → World → Prop} {W : World} (hgd : o.guard = none) (x1 x2 : Operand)
    (ho : o.op = .call { callee := .builtin .append, args := #[x1, x2], argTypes := #[22, 22] }) {xs ks : List Int} (v : Value) (hs : a.eval x1 = v) (hv : W.ownsRow 0 5 1 v xs.length (xs.map fun z => Value.int .u8 z)) (tv : Value) (hx : a.eval x2 = tv) (ht : RIn .u8 W tv ks)
    (hb : xs.length + ks.length ≤ 1000000) (B : Nat) (hB : B ≤ W.heap.size) (hvB : ∀ k, v.ownBlock = some k → B ≤ k)
    (h : ∀ v' W', W'.ownsRow 0 5 1 v' (xs ++ ks).length ((xs ++ ks).map fun z => Value.int .u8 z) → Below B W W' → (∀ k, v'.ownBlock = some k → B ≤ k) → wpList Tryz.prog ops Q rest (a.put o.dst v') W') :
    wpList Tryz.prog ops Q (o :: rest) a W := by
  obtain ⟨i0, hi, hz0, hz1, hz2⟩ := info_parts infoB
  rcases ht with ⟨e1, rfl⟩ | ⟨ad, c, e1, e2, e3, e4⟩
  · refine wpList_append_own_none hgd x1 x2 22 ho 0 5 i0 1 Tryz.underlying22 hi _ _ _ hs hv (by rw [hx, e1]) ?_
    exact h v W (by simpa using hv) ⟨rfl, rfl, rfl, Nat.le_refl _, fun _ _ => rfl⟩ hvB
  · refine wpList_append_own_at W hgd x1 x2 22 ho 0 5 i0 _ 1 1 Tryz.underlying22 hi hz0 hz1 hz2 rfl (by decide) v _ _ hs hv ad ks.length c _ (by rw [hx, e1]) (bytes_len ks) e4 (bytes_one ks) (by unfold maxLen; omega) (by omega) (Nat.zero_le _) ?_
    intro v' W' o2 g2 _ at2
    refine h v' W' (by rw [List.length_append, List.map_append]; exact o2) ⟨g2.os, g2.tape, g2.output, g2.size, fun k hk => g2.block k (by omega) (fun e => by have := hvB k e.symm; omega)⟩ (fun k hk => ?_)
    rcases at2 with e | e
    · rw [e] at hk; exact hvB k hk
    · rw [e] at hk; cases hk; exact hB
/-- a row of one's own lies somewhere -/
theorem own_rin {W : World} {k : IntKind} {e : TypeId} {v : Value} {zs : List Int} (h : W.ownsRow 0 e 1 v zs.length (zs.map fun z => Value.int k z)) : RIn k W v zs := by
  rcases id h.2 with ⟨e1, e2⟩ | ⟨G, cap, cur, e1, e2, e3, e4, e5, e6, e7⟩
  · exact .inl ⟨e1, List.eq_nil_of_length_eq_zero e2⟩
  · refine .inr ⟨⟨G, 0, none⟩, cap, e1, e4, by unfold maxLen at e5; exact e5, ?_⟩
    exact World.ownsRow.cells h (g := G) (by rw [e1]; rfl)
theorem empty_own (w : World) (e : TypeId) (k : IntKind) : (w.alloc (.cells #[] e)).ownsRow 0 e 1 (.slice (some ⟨w.heap.size, 0, none⟩) 0 0) ([] : List Int).length (([] : List Int).map fun z => Value.int k z) := ⟨rfl, .inr ⟨w.heap.size, 0, #[], rfl, Nat.zero_le _, heap_alloc_new w _, Nat.le_refl _, by decide, by simp, by simp⟩⟩

/-- an archive that is stored -/
abbrev zAr : Array Value := #[.slice none 0 0, .bool false, .int .i64 0, .int .i64 0]
theorem stored (w : World) (C : Array Value) : ((w.alloc (.cells zAr 27)).setRow w.heap.size C).heap[w.heap.size]? = some (.cells C 27 (0, 0)) ∧ Below w.heap.size w ((w.alloc (.cells zAr 27)).setRow w.heap.size C) ∧ ((w.alloc (.cells zAr 27)).setRow w.heap.size C).heap.size = w.heap.size + 1 :=
  ⟨setRow_heap _ _ _ _ _ _ (heap_alloc_new w _), below_setRow ((Below.refl _ w).alloc (Nat.le_refl _) _) (Nat.le_refl _) _, by simp⟩

/-- an archive that is done is over -/
theorem arc_dn {a b : AcE} {e : EvE} (h : Pu.arc a e = some b) (k : a.dn = true → a.ov = true) : b.dn = true → b.ov = true := by
  cases e <;> simp only [Pu.arc] at h <;> (repeat' split at h) <;> first | (cases h; done) | (cases h; first | exact k | (intro _; rfl) | (intro z; exact k z))
theorem arcs_dn : ∀ (l : List EvE) {a b : AcE}, Pu.arcs a l = some b → (a.dn = true → a.ov = true) → b.dn = true → b.ov = true
  | [], a, b, h, k => by simp only [Pu.arcs, Option.some.injEq] at h; subst h; exact k
  | e :: r, a, b, h, k => by
    simp only [Pu.arcs] at h
    cases he : Pu.arc a e with
    | none => rw [he] at h; cases h
    | some m => rw [he] at h; exact arcs_dn r h (arc_dn he k)
theorem arch_dn (zs : List Int) : (Pu.arch fns0 zs).dn = true → (Pu.arch fns0 zs).ov = true := arcs_dn _ (Pu.arch_eq fns0 zs).1 (fun h => by cases h)
/-- behind its end nothing more is read -/
theorem finA_more (zs ms : List Int) (h : ¬ ((finA zs).dn = false ∧ (finA zs).code = 5)) : finA (zs ++ ms) = finA zs := by
  have ho : (Pu.arch fns0 zs).ov = true := by
    by_cases c : (Pu.arch fns0 zs).ov = true
    · exact c
    · exfalso
      apply h
      unfold finA
      rw [if_neg c]
      refine ⟨?_, rfl⟩
      show (Pu.arch fns0 zs).dn = false
      cases hd : (Pu.arch fns0 zs).dn with
      | false => rfl
      | true => exact absurd (arch_dn zs hd) c
  obtain ⟨e1, e2⟩ := Pu.arch_over fns0 zs ms ho
  unfold finA
  rw [e1, if_pos ho, if_pos ho]

theorem finA_ts (zs : List Int) : (finA zs).ts = (Pu.arch fns0 zs).ts := by unfold finA; split <;> rfl
theorem finA_len (zs : List Int) (hA : H.AllB zs) : (finA zs).ts.length ≤ 4 * zs.length := by
  rw [finA_ts]
  obtain ⟨_, e2, _⟩ := fed_arch zs []
  have ep : pcs zs ([] ++ [(zs.length : Int)]) = [zs] := by
    have e : (max 0 (min (zs.length : Int) (zs.length : Int))).toNat = zs.length := by omega
    simp only [List.nil_append, pcs, e, List.take_length]
  rw [ep] at e2
  simp only [Pu.feeds, List.append_nil] at e2
  have k1 := (arcs_grow _ e2 (D := 0) (X := zs.length) (fun u hu => by cases hu) (fun d p h => (feed_dat _ _ _ hA h).2)).1
  have k2 := (feed_all fall0 zs.length (Pu.new fns0) zs (.inl (by show (512 : Nat) ≠ 0; omega)) (rok_new fall0) hA).1
  have k3 : (Pu.Ac.nil : AcE).ts.length = 0 := rfl
  omega

set_option maxRecDepth 100000 in
set_option maxHeartbeats 8000000 in
theorem pieces_w (w : World) (vb vm vc : Value) (zs ms cuts : List Int) (hb : RIn .u8 w vb zs) (hm : RIn .u8 w vm ms) (hc : RIn .i64 w vc cuts) (hA : H.AllB zs) (hA2 : H.AllB ms) (hL : Lb w) (hF : F.Laid w) :
    Calls Tryz.prog 3 #[vb, vm, vc] w fun e w' => e = .returned (.bool true) ∧ Below w.heap.size w w' := by
  obtain ⟨PP, hPP⟩ : ∃ PP : Ending → World → Prop, PP = fun e w' => e = .returned (.bool true) ∧ Below w.heap.size w w' := ⟨_, rfl⟩
  rw [← hPP]
  have HP : Hid (∀ W, Below w.heap.size w W → PP (.returned (.bool true)) W) := fun W b => by rw [hPP]; exact ⟨rfl, b⟩
  clear hPP
  have q0 := reads_w w hL
  obtain ⟨ad0, c0, rfl⟩ := hb.sl
  obtain ⟨ad1, c1, rfl⟩ := hm.sl
  obtain ⟨ad2, c2, rfl⟩ := hc.sl
  by_cases l0 : (20000 : Int) < (zs.length : Int)
  · clear hb hm hc hA hA2 hL hF
    go_enter Tryz.func3, Tryz.ntmps3
    go_wp2_with (go_at_call 10; refine q0.mono ?_; rintro e w1 ⟨rfl, b1⟩)
    exact HP.out _ b1
  by_cases l1 : (2000 : Int) < (ms.length : Int)
  · clear hb hm hc hA hA2 hL hF
    go_enter Tryz.func3, Tryz.ntmps3
    go_wp2_with (go_at_call 10; refine q0.mono ?_; rintro e w1 ⟨rfl, b1⟩)
    exact HP.out _ b1
  by_cases l2 : (200 : Int) < (cuts.length : Int)
  · clear hb hm hc hA hA2 hL hF
    go_enter Tryz.func3, Tryz.ntmps3
    go_wp2_with (go_at_call 10; refine q0.mono ?_; rintro e w1 ⟨rfl, b1⟩)
    exact HP.out _ b1
  have HFD : Hid (∀ W, Below w.heap.size w W → Calls Tryz.prog 11 #[.slice ad0 zs.length c0, .slice none 0 0] W fun e w' => ∃ tv, e = .returned (.tuple #[.agg (arC tv (finA zs)), .bool true]) ∧ ThS w' tv (finA zs).ts ∧ Below W.heap.size W w' ∧ ∀ k, tv.ownBlock = some k → W.heap.size ≤ k) := fun W b =>
    fed_w W _ _ zs [] (hb.below b) (.inl ⟨rfl, rfl⟩) hA (by omega) (by simp) (hL.below b) (hF.below b)
  have HFC : Hid (∀ W, Below w.heap.size w W → Calls Tryz.prog 11 #[.slice ad0 zs.length c0, .slice ad2 cuts.length c2] W fun e w' => ∃ tv, e = .returned (.tuple #[.agg (arC tv (finA zs)), .bool true]) ∧ ThS w' tv (finA zs).ts ∧ Below W.heap.size W w' ∧ ∀ k, tv.ownBlock = some k → W.heap.size ≤ k) := fun W b =>
    fed_w W _ _ zs cuts (hb.below b) (hc.below b) hA (by omega) (by omega) (hL.below b) (hF.below b)
  have HFM : Hid (∀ W v, Below w.heap.size w W → RIn .u8 W v (zs ++ ms) → Calls Tryz.prog 11 #[v, .slice ad2 cuts.length c2] W fun e w' => ∃ tv, e = .returned (.tuple #[.agg (arC tv (finA (zs ++ ms))), .bool true]) ∧ ThS w' tv (finA (zs ++ ms)).ts ∧ Below W.heap.size W w' ∧ ∀ k, tv.ownBlock = some k → W.heap.size ≤ k) := fun W v b h =>
    fed_w W _ _ (zs ++ ms) cuts h (hc.below b) (fun z hz => by rcases List.mem_append.1 hz with q | q; exact hA z q; exact hA2 z q) (by rw [List.length_append]; omega) (by omega) (hL.below b) (hF.below b)
  have HMO := finA_more zs ms
  have hlt : (finA zs).ts.length ≤ 1000000 := by have := finA_len zs hA; omega
  have HRB : Hid (∀ W, Below w.heap.size w W → RIn .u8 W (.slice ad0 zs.length c0) zs) := fun W b => hb.below b
  have HRM : Hid (∀ W, Below w.heap.size w W → RIn .u8 W (.slice ad1 ms.length c1) ms) := fun W b => hm.below b
  generalize finA (zs ++ ms) = A3 at *
  generalize finA zs = A at *
  have HM : Hid (¬ (A.dn = false ∧ A.code = 5) → A3 = A) := HMO
  have hzA := zeroAr
  have hsz := sizeAr
  clear hb hm hc hA hA2 hL hF HMO
  go_enter Tryz.func3, Tryz.ntmps3
  go_upto_region 5 with (go_at_call 10; refine q0.mono ?_; rintro e w1 ⟨rfl, b1⟩)
  go_upto_region 6 with (first
    | (go_at_call 11; refine Calls.mono (HFD.out _ b1) ?_; rintro e w2 ⟨tv1, rfl, o1, b2, n2⟩)
    | (refine wpList_store_row rfl 27 _ _ rfl _ (arC tv1 A) rfl rfl 27 _ (heap_alloc_new w2 _) hsz rfl (arC_one _ (own_one o1)) ?_))
  obtain ⟨s1, s2, s3⟩ := stored w2 (arC tv1 A)
  have B3 : Below w.heap.size w ((w2.alloc (.cells zAr 27)).setRow w2.heap.size (arC tv1 A)) := (b1.trans (b2.mono b1.size)).trans (s2.mono (b1.trans (b2.mono b1.size)).size)
  have O3 : ThS ((w2.alloc (.cells zAr 27)).setRow w2.heap.size (arC tv1 A)) tv1 A.ts := own_moved o1 fun k hk => s2.block k (own_lt o1 hk).1
  generalize World.setRow _ _ _ = w3 at *
  generalize w2.heap.size = p1 at *
  have HS1 : Hid _ := s1
  have HB3 : Hid _ := B3
  have HO3 : Hid _ := O3
  have hp1 : p1 < w3.heap.size := by omega
  clear s1 s2 s3 B3 O3 o1 b2 n2 b1 HFD
  go_upto_region 7 with (first
    | (go_at_call 11; refine Calls.mono (HFC.out _ HB3.out) ?_; rintro e w4 ⟨tv2, rfl, o2, b4, n4⟩)
    | (refine wpList_store_row rfl 27 _ _ rfl _ (arC tv2 A) rfl rfl 27 _ (heap_alloc_new w4 _) hsz rfl (arC_one _ (own_one o2)) ?_))
  obtain ⟨s1, s2, s3⟩ := stored w4 (arC tv2 A)
  have B45 := b4.trans (s2.mono b4.size)
  have O5 : ThS ((w4.alloc (.cells zAr 27)).setRow w4.heap.size (arC tv2 A)) tv2 A.ts := own_moved o2 fun k hk => s2.block k (own_lt o2 hk).1
  generalize World.setRow _ _ _ = w5 at *
  generalize w4.heap.size = p2 at *
  have HS2 : Hid _ := s1
  have HS15 : Hid _ := (B45.block p1 hp1).trans HS1.out
  have HO15 : Hid (ThS w5 tv1 A.ts) := own_moved HO3.out fun k hk => B45.block k (own_lt HO3.out hk).1
  have HB5 : Hid (Below w.heap.size w w5) := HB3.out.trans (B45.mono HB3.out.size)
  have HO5 : Hid _ := O5
  have hp2 : p2 < w5.heap.size := by omega
  have hp15 : p1 < w5.heap.size := by have := B45.size; omega
  clear s1 s2 s3 O5 o2 b4 n4 HFC HS1 HO3 HB3 B45
  have qs := same_w w5 tv1 tv2 A A HO15.out HO5.out rfl rfl rfl rfl hlt
  have y51 : ∀ i, w5.cell? ⟨p1, i, none⟩ = (#[tv1, .bool A.dn, .int .i64 A.code, .int .i64 A.place] : Array Value)[i]? := fun i => by
    simp only [World.cell?, HS15.out]
    rfl
  have y52 : ∀ i, w5.cell? ⟨p2, i, none⟩ = (#[tv2, .bool A.dn, .int .i64 A.code, .int .i64 A.place] : Array Value)[i]? := fun i => by
    simp only [World.cell?, HS2.out]
    rfl
  go_upto_region 9 with (go_at_call 12; refine qs.mono ?_; rintro e w6 ⟨rfl, b6⟩)
  have HS16 : Hid _ := (b6.block p1 hp15).trans HS15.out
  have HO16 : Hid (ThS w6 tv1 A.ts) := own_moved HO15.out fun k hk => b6.block k (own_lt HO15.out hk).1
  have HB6 : Hid (Below w.heap.size w w6) := HB5.out.trans (b6.mono HB5.out.size)
  have hp16 : p1 < w6.heap.size := by have := b6.size; omega
  have y6 : ∀ i, w6.cell? ⟨p1, i, none⟩ = (#[tv1, .bool A.dn, .int .i64 A.code, .int .i64 A.place] : Array Value)[i]? := fun i => by
    simp only [World.cell?, HS16.out]
    rfl
  clear b6 qs y51 y52 HS15 HO15 HB5 HS2 HO5 hp15 hp2 hp1
  by_cases hq : A.dn = false ∧ A.code = 5
  · obtain ⟨hq1, hq2⟩ := hq
    rw [hq1, hq2] at y6
    have F := HP.out _ HB6.out
    have HF : Hid _ := F
    clear HFM HRB HRM HM HS16 HO16 HB6 F HP
    go_wp2_with fail
    exact HF.out
  obtain rfl : A = A3 := (HM.out hq).symm
  have E0 : Hid ((w6.alloc (.cells #[] 5)).ownsRow 0 5 1 (.slice (some ⟨w6.heap.size, 0, none⟩) 0 0) ([] : List Int).length (([] : List Int).map fun z => Value.int .u8 z)) := empty_own w6 5 .u8
  have bE : Below w6.heap.size w6 (w6.alloc (.cells #[] 5)) := (Below.refl _ w6).alloc (Nat.le_refl _) _
  have HBE : Hid _ := bE
  have HR1 : Hid _ := HRB.out _ (HB6.out.trans (bE.mono HB6.out.size))
  clear bE HM
  have hcase : (A.dn = true) ∨ (A.dn = false ∧ ¬ A.code = 5) := by
    cases hd : A.dn with
    | true => exact .inl rfl
    | false => exact .inr ⟨rfl, fun e => hq ⟨hd, e⟩⟩
  clear hq
  rcases hcase with hd | ⟨hd, hc5⟩
  all_goals
    rw [hd] at y6
    go_upto_region 12 with (first
      | (at_builtin; refine wpList_append_u8s rfl _ _ rfl (xs := []) (ks := zs) _ rfl E0.out _ rfl HR1.out (by simp; omega) w6.heap.size (by simp) (fun k hk => by have hk' : some w6.heap.size = some k := hk; cases hk'; omega) ?_; intro v7 w7 o7 b7 n7; obtain ⟨a7, c7, rfl, _⟩ := own_sl o7; have HO7 : Hid _ := o7; have HB7 : Hid (Below w6.heap.size w6 w7) := HBE.out.trans b7; have HN7 : Hid _ := n7; have HR7 : Hid _ := HRM.out _ (HB6.out.trans (HB7.out.mono HB6.out.size)); clear o7 b7 n7)
      | (at_builtin; refine wpList_append_u8s rfl _ _ rfl (xs := [] ++ zs) (ks := ms) _ rfl HO7.out _ rfl HR7.out (by simp; omega) w6.heap.size HB7.out.size HN7.out ?_; intro v8 w8 o8 b8 n8; obtain ⟨a8, c8, rfl, _⟩ := own_sl o8; have HR8 : Hid (RIn .u8 w8 (.slice a8 (zs.length + ms.length) c8) (zs ++ ms)) := (by have h := own_rin o8; rw [List.nil_append, List.length_append] at h; exact h); have HB8 : Hid (Below w6.heap.size w6 w8) := HB7.out.trans b8; clear o8 b8 n8)
      | (go_at_call 11; refine Calls.mono (HFM.out _ _ (HB6.out.trans (HB8.out.mono HB6.out.size)) HR8.out) ?_; rintro e w9 ⟨tv3, rfl, o9, b9, n9⟩)
      | (refine wpList_store_row rfl 27 _ _ rfl _ (arC tv3 A) rfl rfl 27 _ (heap_alloc_new w9 _) hsz rfl (arC_one _ (own_one o9)) ?_))
    obtain ⟨s1, s2, s3⟩ := stored w9 (arC tv3 A)
    have B89 : Below w6.heap.size w6 w9 := HB8.out.trans (b9.mono HB8.out.size)
    have B69 := B89.trans (s2.mono B89.size)
    have O9 : ThS ((w9.alloc (.cells zAr 27)).setRow w9.heap.size (arC tv3 A)) tv3 A.ts := own_moved o9 fun k hk => s2.block k (own_lt o9 hk).1
    generalize World.setRow _ _ _ = wX at *
    generalize w9.heap.size = p3 at *
    have y1 : ∀ i, wX.cell? ⟨p1, i, none⟩ = (#[tv1, .bool A.dn, .int .i64 A.code, .int .i64 A.place] : Array Value)[i]? := fun i => by
      simp only [World.cell?, (B69.block p1 hp16).trans HS16.out]
      rfl
    have y3 : ∀ i, wX.cell? ⟨p3, i, none⟩ = (#[tv3, .bool A.dn, .int .i64 A.code, .int .i64 A.place] : Array Value)[i]? := fun i => by
      simp only [World.cell?, s1]
      rfl
    have qz := same_w wX tv1 tv3 A A (own_moved HO16.out fun k hk => B69.block k (own_lt HO16.out hk).1) O9 rfl rfl rfl rfl hlt
    have HBX : Hid (Below w.heap.size w wX) := HB6.out.trans (B69.mono HB6.out.size)
    rw [hd] at y1 y3
    have hq2 : arC tv1 A = #[tv1, .bool A.dn, .int .i64 A.code, .int .i64 A.place] := rfl
    have hq3 : arC tv3 A = #[tv3, .bool A.dn, .int .i64 A.code, .int .i64 A.place] := rfl
    rw [hq2, hq3, hd] at qz
    clear s1 s2 s3 B89 B69 O9 o9 b9 n9 HB8 HR8 HB7 HN7 HR7 HO7 HBE HR1 E0 HFM HRB HRM HS16 HO16 HB6 y6 hq2 hq3
    go_wp2_with (go_at_call 12; refine qz.mono ?_; rintro e wY ⟨rfl, bY⟩)
    exact HP.out _ (HBX.out.trans (bY.mono HBX.out.size))
end Go.Proofs.YtnmmaedngdibeaaGreatDoor
