/-
  The law UsageGrows, its walk.
-/
import Derived.Test.YtojnniacmmcddaaDoorGg
import Derived.Test.YtojnniacmmcddaaDoorN1
import Derived.Test.YtojnniacmmcddaaDoorGi
import Derived.Deep.RegionHeld3
namespace Go.Proofs.YtojnniacmmcddaaDoor
open Go.RowKit
open Go.Lib hiding intOf
set_option linter.unusedVariables false
set_option linter.unusedSimpArgs false

set_option maxRecDepth 20000 in
set_option maxHeartbeats 8000000 in
theorem grows_w (ad0 : Option Addr) (cap0 : Nat) (X : List Tg) (x : Tg) (w : World) (hm : Ml w) (hxo : x.ok) (hX : Ts w ad0 X) (hXo : ∀ y ∈ X, y.ok) (hcap0 : X.length ≤ cap0) (hnil0 : ad0 = none → cap0 = 0) :
    Calls Tryd.prog 9 #[.slice ad0 X.length cap0, .agg #[.string (bs x.p), .string (bs x.t), .int .i64 x.k, .int .i64 x.z]] w fun e w' => e = .returned (.bool true) ∧ Below w.heap.size w w' := by
  have KM : Hid (∀ W, Below w.heap.size w W → Calls Tryd.prog 18 #[] W fun e w' => e = .returned (.bool true) ∧ Below W.heap.size W w') := fun W hb => measures_w W (hm.below hb)
  have HM : Hid (Ml w) := hm
  have HP : Hid (X.length ≤ 41 → ∀ W, Below w.heap.size w W → Calls Tryd.prog 19 #[.slice ad0 X.length cap0] W fun e w' => ∃ v, e = .returned v ∧ Tm w' v (plantL X).1 (plantL X).2 ∧ Below W.heap.size W w') := fun hl W hb => planted_w ad0 cap0 X W (hm.below hb) (hX.below hb) hXo hl
  have KCl : Hid (∀ W, Below w.heap.size w W → Calls Tryd.prog 12 #[.string (bs x.p)] W fun e w' => ∃ ad c, e = .returned (.tuple #[.slice ad (cln x.p).length c, .int .i64 (err x.p)]) ∧ (cln x.p).length ≤ c ∧ Sl w' ad (cln x.p) ∧ Below W.heap.size W w') := fun W hb => clean_sl x.p hxo.1 W (hm.below hb)
  have hcc := cln_count x.p
  have hcl := cln_len x.p
  have hbs := bs_size x.p
  have htl := bs_toList x.t
  have HX : Hid (Ts w ad0 X) := hX
  have HXo : Hid (∀ y ∈ X, y.ok) := hXo
  clear hm hX hXo
  obtain ⟨hSd, hlen, hnx⟩ := plantL_sd X
  have HSd : Hid (Sd (plantL X).1 (plantL X).2) := hSd
  have HL1 : Hid ((plantL X).1.length ≤ 301 * X.length) := hlen
  have HN1 : Hid ((plantL X).2 ≤ 301 * (X.length : Int)) := hnx
  obtain ⟨u, hu⟩ : ∃ u, ofU (plantL X).1 = u := ⟨_, rfl⟩
  obtain ⟨v, hv⟩ : ∃ v, ofU (plantL (X ++ [x])).1 = v := ⟨_, rfl⟩
  have HG : Hid (x.t = [] → fd (plantL X).1 (jn (cln x.p)) = false → u.b ≤ v.b ∧ u.n ≤ v.n ∧ u.d ≤ v.d ∧ u.l ≤ v.l ∧ v.b ≤ u.b + 1048576) := fun h1 h2 => by
    have g := grows (q := plantL X) (x := x) hSd h1 h2
    rw [← plantL_snoc, hu, hv] at g
    exact g
  clear hSd hlen hnx
  have hbx := below_box w (.cells #[.string (bs x.p), .string (bs x.t), .int .i64 x.k, .int .i64 x.z] 59)
  have hqx := heap_alloc_new w (.cells #[.string (bs x.p), .string (bs x.t), .int .i64 x.k, .int .i64 x.z] 59)
  have hsx := size_box w (.cells #[.string (bs x.p), .string (bs x.t), .int .i64 x.k, .int .i64 x.z] 59)
  go_enter Tryd.func9, Tryd.ntmps9
  go_upto_region 1 with fail
  generalize w.alloc _ = w0 at *
  go_upto_region 3 with (go_at_call 18; refine (KM.out _ hbx).mono ?_; rintro e w1 ⟨rfl, k1⟩)
  have B1 : Hid (Below w.heap.size w w1) := hbx.trans (k1.mono hbx.size)
  have Q1 : Hid (w1.heap[w.heap.size]? = some (.cells #[.string (bs x.p), .string (bs x.t), .int .i64 x.k, .int .i64 x.z] 59 (0, 0))) := (k1.block _ (by omega)).trans hqx
  have hg1 : w.heap.size < w1.heap.size := by have := k1.size; omega
  have m1 := cells_of Q1.out
  clear hbx hqx hsx k1 KM
  generalize hep : err x.p = e1 at *
  have HEp : Hid (err x.p = e1) := hep
  clear hep
  go_upto_region 4 with (go_at_call 12; refine (KCl.out _ B1.out).mono ?_; rintro e w2 ⟨a1, c1, rfl, hc1, S1, k2⟩)
  have B2 : Hid (Below w.heap.size w w2) := B1.out.trans (k2.mono B1.out.size)
  have Q2 : Hid (w2.heap[w.heap.size]? = some (.cells #[.string (bs x.p), .string (bs x.t), .int .i64 x.k, .int .i64 x.z] 59 (0, 0))) := (k2.block _ hg1).trans Q1.out
  have hg2 : w.heap.size < w2.heap.size := Nat.lt_of_lt_of_le hg1 k2.size
  have S2 : Hid (Sl w2 a1 (cln x.p)) := S1
  have m2 := cells_of Q2.out
  clear m1 k2 S1 KCl B1 Q1 hg1
  by_cases ht : x.t = []
  · have hte : x.t.isEmpty = true := by simp [ht]
    have HG2 := HG.out ht
    go_upto_region 6 with fail
    all_goals try (go_ret; exact ⟨rfl, B2.out⟩)
    have HP1 := HP.out (by omega)
    have HE0 : Hid (jn (cln x.p) = [] ∨ Cp (jn (cln x.p))) := cln_cp (HEp.out.trans (by assumption))
    have hs300 : x.p.length ≤ 300 := by omega
    have hnX : X.length ≤ 40 := by omega
    have HP2 : Hid (∀ W, Below w.heap.size w W → Calls Tryd.prog 19 #[.slice ad0 X.length cap0] W fun e w' => ∃ v, e = .returned v ∧ Tm w' v (plantL X).1 (plantL X).2 ∧ Below W.heap.size W w') := HP1
    have hLn : (plantL X).1.length ≤ 100000 := by have := HL1.out; omega
    have hNx : (plantL X).2 ≤ 900000000 := by have := HN1.out; omega
    have HG3 : Hid (fd (plantL X).1 (jn (cln x.p)) = false → u.b ≤ v.b ∧ u.n ≤ v.n ∧ u.d ≤ v.d ∧ u.l ≤ v.l ∧ v.b ≤ u.b + 1048576) := HG2
    have HO : Hid (∀ r ∈ (plantL X).1, Okr r) := HSd.out.okr (by omega)
    have Hu : Hid (ofU (plantL X).1 = u) := hu
    have Hv : Hid (ofU (plantL (X ++ [x])).1 = v) := hv
    have hsu := ofU_small (plantL X).1 HO.out
    rw [hu] at hsu
    clear HP1 HG2 HG HP hu hv HL1 HN1
    generalize (plantL X).1 = L at *
    generalize (plantL X).2 = nx at *
    go_upto_region 7 with (go_at_call 19; refine (HP2.out _ B2.out).mono ?_; rintro e w3 ⟨v3, rfl, ⟨ad, cap, rfl, R3, C3', N3⟩, k3⟩)
    have hb4 := below_box w3 (.cells #[.slice ad L.length cap, .int .i64 nx] 26)
    have hq4 := heap_alloc_new w3 (.cells #[.slice ad L.length cap, .int .i64 nx] 26)
    have hs4 := size_box w3 (.cells #[.slice ad L.length cap, .int .i64 nx] 26)
    generalize w3.alloc _ = w4 at *
    have k4 : Below w2.heap.size w2 w4 := k3.trans (hb4.mono k3.size)
    have B4 : Hid (Below w.heap.size w w4) := B2.out.trans (k4.mono B2.out.size)
    have R4 : Hid (Rs w4 ad L) := R3.below hb4
    have S4 : Hid (Sl w4 a1 (cln x.p)) := S2.out.below k4
    have Q4 : Hid (w4.heap[w.heap.size]? = some (.cells #[.string (bs x.p), .string (bs x.t), .int .i64 x.k, .int .i64 x.z] 59 (0, 0))) := (k4.block _ hg2).trans Q2.out
    have hg4 : w.heap.size < w4.heap.size := Nat.lt_of_lt_of_le hg2 k4.size
    have Q7 : Hid (w4.heap[w3.heap.size]? = some (.cells #[.slice ad L.length cap, .int .i64 nx] 26 (0, 0))) := hq4
    have hg7 : w3.heap.size < w4.heap.size := by omega
    clear m2 hb4 hq4 hs4 k3 R3 HP2 k4 B2 S2 Q2 hg2
    generalize w3.heap.size = g7 at *
    generalize hn : L.length = n at *
    have HLn : Hid (L.length = n) := hn
    clear hn
    have KJ : Hid (∀ W, Below w4.heap.size w4 W → Calls Tryd.prog 13 #[.slice a1 (cln x.p).length c1] W fun e w' => e = .returned (.string (bs (jn (cln x.p)))) ∧ Below W.heap.size W w') := fun W hb => join_w a1 c1 (cln x.p) W (S4.out.below hb) hc1 (by omega) (by omega)
    obtain ⟨q, hq⟩ : ∃ q, atR L (jn (cln x.p)) = q := ⟨_, rfl⟩
    obtain ⟨F, hF⟩ : ∃ F, fd L (jn (cln x.p)) = F := ⟨_, rfl⟩
    rw [hF] at HG3
    have hp9 : ∀ r ∈ L, r.p.length ≤ 4611686018427387903 := fun r hr => by have := (HSd.out.ok r hr).1; omega
    have KG : Hid (∀ W, Below w4.heap.size w4 W → Calls Tryd.prog 14 #[.agg #[.slice ad n cap, .int .i64 nx], .string (bs (jn (cln x.p)))] W fun e w' => e = .returned (.tuple #[.agg #[.string (bs q.p), .int .i64 q.id, .int .i64 q.kind, .int .i64 q.mode, .int .i64 0, .int .i64 0, .int .i64 0, .string ⟨#[]⟩, .string ⟨#[]⟩, .string ⟨#[]⟩, .slice none 0 0, .int .i64 q.size, .bool q.made], .bool F]) ∧ Below W.heap.size W w') := fun W hb => by
      have g := get_w ad cap nx L (jn (cln x.p)) W HSd.out.srt (R4.out.below hb) (by rw [HLn.out]; omega) hp9 (by omega)
      rw [HLn.out, hq, hF] at g
      exact g
    clear hq hF hp9
    have HS : Hid (∀ W, Below w4.heap.size w4 W → (fun W : World => ∀ k, W.cell? ⟨g7, k, none⟩ = (#[.slice ad n cap, .int .i64 nx] : Array Value)[k]?) W) := fun W hb => cells_of ((hb.block _ hg7).trans Q7.out)
    go_cut [9] (fun s9 wx => s9 = .bool F ∧ Hid (Below w4.heap.size w4 wx))
    case first =>
      have h0 := HS.out _ ((Below.refl w4.heap.size w4).drew)
      refine wp_region_held_drew (S := (fun W : World => ∀ k, W.cell? ⟨g7, k, none⟩ = (#[.slice ad n cap, .int .i64 nx] : Array Value)[k]?)) (by kernel_rfl) h0 (fun hHeld => ?_)
      refine wpAnyH_take (i := 0) (oi := { dst := some 41, op := Op.load 26 (Operand.tmp 7), type := 26, pos := "law.go:179", after := #[], guard := none }) (v := ?_) rfl (by kernel_rfl) (by kernel_rfl) (by kernel_rfl) (fun _ _ _ h => h) (Or.inl ⟨by rfl, ?_⟩) (by assumption) ?_
      rotate_left 1
      · (intro W hSw; (try obtain ⟨hSw, hSw2⟩ := hSw); go_simp; try with_reducible rfl)
      try simp only [Act.put, List.setIfInBounds_toArray, List.set_cons_zero, List.set_cons_succ]
      refine wpAnyH_take (i := 1) (oi := { dst := some 42, op := Op.move (Operand.tmp 5), type := 23, pos := "law.go:179", after := #[], guard := none }) (v := ?_) rfl (by kernel_rfl) (by kernel_rfl) (by kernel_rfl) (fun _ _ _ h => h) (Or.inl ⟨by rfl, ?_⟩) (by assumption) ?_
      rotate_left 1
      · (intro W hSw; (try obtain ⟨hSw, hSw2⟩ := hSw); go_simp; try with_reducible rfl)
      try simp only [Act.put, List.setIfInBounds_toArray, List.set_cons_zero, List.set_cons_succ]
      refine wpAnyH_ready (rs := [2, 7]) (by kernel_rfl) (by simp) ?_
      refine AllReadyH.cons (o := { dst := some 43, op := Op.call { callee := Callee.value (Operand.func 13), args := #[Operand.tmp 42], argTypes := #[23] }, type := 9, pos := "law.go:179", after := #[{ on := 1, ground := Ground.data }], guard := none }) rfl (fun K hK => ?_) (AllReadyH.cons (o := { dst := some 8, op := Op.alloc 40, type := 0, pos := "law.go:179", after := #[], guard := none }) rfl (fun K hK => ?_) AllReadyH.nil)
      · go_simp
        go_at_call 13
        refine (KJ.out _ ((Below.refl w4.heap.size w4).drew)).mono ?_
        rintro e wJ_1 ⟨rfl, kJ_1⟩
        have B_1 := ((Below.refl w4.heap.size w4).drew).trans (kJ_1.mono ((Below.refl w4.heap.size w4).drew).size)
        go_wp2_with fail
        refine hK.out _ _ (HS.out _ B_1) (fun hHeld => ?_)
        clear hK K
        try simp only [Act.put, List.setIfInBounds_toArray, List.set_cons_zero, List.set_cons_succ]
        refine wpAnyH_ready (rs := [3, 7]) (by kernel_rfl) (by simp) ?_
        refine AllReadyH.cons (o := { dst := some 44, op := Op.call { callee := Callee.value (Operand.func 14), args := #[Operand.tmp 41, Operand.tmp 43], argTypes := #[26, 9] }, type := 42, pos := "law.go:179", after := #[{ on := 0, ground := Ground.data }, { on := 2, ground := Ground.data }, { on := 2, ground := Ground.chain }], guard := none }) rfl (fun K hK => ?_) (AllReadyH.cons (o := { dst := some 8, op := Op.alloc 40, type := 0, pos := "law.go:179", after := #[], guard := none }) rfl (fun K hK => ?_) AllReadyH.nil)
        · go_simp
          go_at_call 14
          refine (KG.out _ (B_1)).mono ?_
          rintro e wG_2 ⟨rfl, kG_2⟩
          have B_2 := (B_1).trans (kG_2.mono (B_1).size)
          go_wp2_with fail
          refine hK.out _ _ (HS.out _ B_2) (fun hHeld => ?_)
          clear hK K
          try simp only [Act.put, List.setIfInBounds_toArray, List.set_cons_zero, List.set_cons_succ]
          refine wpAnyH_take (i := 4) (oi := { dst := some 40, op := Op.move (Operand.tmp 44), type := 42, pos := "law.go:179", after := #[{ on := 3, ground := Ground.data }], guard := none }) (v := ?_) rfl (by kernel_rfl) (by kernel_rfl) (by kernel_rfl) (fun _ _ _ h => h) (Or.inl ⟨by rfl, ?_⟩) (by assumption) ?_
          rotate_left 1
          · (intro W hSw; (try obtain ⟨hSw, hSw2⟩ := hSw); go_simp; try with_reducible rfl)
          try simp only [Act.put, List.setIfInBounds_toArray, List.set_cons_zero, List.set_cons_succ]
          refine wpAnyH_take (i := 5) (oi := { dst := some 45, op := Op.extract (Operand.tmp 40) 0, type := 40, pos := "law.go:179", after := #[{ on := 4, ground := Ground.data }], guard := none }) (v := ?_) rfl (by kernel_rfl) (by kernel_rfl) (by kernel_rfl) (fun _ _ _ h => h) (Or.inl ⟨by rfl, ?_⟩) (by assumption) ?_
          rotate_left 1
          · (intro W hSw; (try obtain ⟨hSw, hSw2⟩ := hSw); go_simp; try with_reducible rfl)
          try simp only [Act.put, List.setIfInBounds_toArray, List.set_cons_zero, List.set_cons_succ]
          refine wpAnyH_take (i := 6) (oi := { dst := some 46, op := Op.extract (Operand.tmp 40) 1, type := 4, pos := "law.go:179", after := #[{ on := 4, ground := Ground.data }, { on := 8, ground := Ground.gcOnly Departure.lateStores }], guard := none }) (v := ?_) rfl (by kernel_rfl) (by kernel_rfl) (by kernel_rfl) (fun _ _ _ h => h) (Or.inl ⟨by rfl, ?_⟩) (by assumption) ?_
          rotate_left 1
          · (intro W hSw; (try obtain ⟨hSw, hSw2⟩ := hSw); go_simp; try with_reducible rfl)
          try simp only [Act.put, List.setIfInBounds_toArray, List.set_cons_zero, List.set_cons_succ]
          refine wpAnyH_ready (rs := [7]) (by kernel_rfl) (by simp) ?_
          refine AllReadyH.cons (o := { dst := some 8, op := Op.alloc 40, type := 0, pos := "law.go:179", after := #[], guard := none }) rfl (fun K hK => ?_) AllReadyH.nil
          · go_simp
            have B_3 := (B_2).alloc (B_2).size (.cells #[.string ⟨#[]⟩, .int .i64 0, .int .i64 0, .int .i64 0, .int .i64 0, .int .i64 0, .int .i64 0, .string ⟨#[]⟩, .string ⟨#[]⟩, .string ⟨#[]⟩, .slice none 0 0, .int .i64 0, .bool false] 40)
            have x_3 : ((wG_2).alloc (.cells #[.string ⟨#[]⟩, .int .i64 0, .int .i64 0, .int .i64 0, .int .i64 0, .int .i64 0, .int .i64 0, .string ⟨#[]⟩, .string ⟨#[]⟩, .string ⟨#[]⟩, .slice none 0 0, .int .i64 0, .bool false] 40)).heap[wG_2.heap.size]? = some (.cells #[.string ⟨#[]⟩, .int .i64 0, .int .i64 0, .int .i64 0, .int .i64 0, .int .i64 0, .int .i64 0, .string ⟨#[]⟩, .string ⟨#[]⟩, .string ⟨#[]⟩, .slice none 0 0, .int .i64 0, .bool false] 40 (0, 0)) := heap_alloc_new (wG_2) (.cells #[.string ⟨#[]⟩, .int .i64 0, .int .i64 0, .int .i64 0, .int .i64 0, .int .i64 0, .int .i64 0, .string ⟨#[]⟩, .string ⟨#[]⟩, .string ⟨#[]⟩, .slice none 0 0, .int .i64 0, .bool false] 40)
            have l_3 : wG_2.heap.size < ((wG_2).alloc (.cells #[.string ⟨#[]⟩, .int .i64 0, .int .i64 0, .int .i64 0, .int .i64 0, .int .i64 0, .int .i64 0, .string ⟨#[]⟩, .string ⟨#[]⟩, .string ⟨#[]⟩, .slice none 0 0, .int .i64 0, .bool false] 40)).heap.size := (by show _ < _; rw [size_box]; exact Nat.lt_succ_self _)
            have hge_3 : w4.heap.size ≤ wG_2.heap.size := (B_2).size
            refine hK.out _ _ (HS.out _ B_3) (fun hHeld => ?_)
            clear hK K
            try simp only [Act.put, List.setIfInBounds_toArray, List.set_cons_zero, List.set_cons_succ]
            refine wpAnyH_ready (rs := [8]) (by kernel_rfl) (by simp) ?_
            refine AllReadyH.cons (o := { dst := none, op := Op.store 40 (Operand.tmp 8) (Operand.tmp 45), type := 0, pos := "law.go:179", after := #[{ on := 7, ground := Ground.data }, { on := 5, ground := Ground.data }, { on := 3, ground := Ground.chain }, { on := 0, ground := Ground.phase }, { on := 1, ground := Ground.phase }, { on := 2, ground := Ground.phase }, { on := 3, ground := Ground.phase }, { on := 4, ground := Ground.phase }, { on := 5, ground := Ground.phase }, { on := 6, ground := Ground.textOnly Departure.lateStores }, { on := 7, ground := Ground.phase }], guard := none }) rfl (fun K hK => ?_) AllReadyH.nil
            · have y_4 := cells_of x_3
              have f_4 := froz_of x_3
              have B_4 := (B_2).alloc (B_2).size (.cells #[.string (bs q.p), .int .i64 q.id, .int .i64 q.kind, .int .i64 q.mode, .int .i64 0, .int .i64 0, .int .i64 0, .string ⟨#[]⟩, .string ⟨#[]⟩, .string ⟨#[]⟩, .slice none 0 0, .int .i64 q.size, .bool q.made] 40)
              go_simp
              refine hK.out _ _ (HS.out _ B_4) (fun hHeld => ?_)
              clear hK K
              try simp only [Act.put, List.setIfInBounds_toArray, List.set_cons_zero, List.set_cons_succ]
              refine wpAnyH_take (i := 9) (oi := { dst := some 9, op := Op.assign (Operand.tmp 46), type := 4, pos := "law.go:179", after := #[{ on := 6, ground := Ground.data }, { on := 8, ground := Ground.chain }, { on := 0, ground := Ground.phase }, { on := 1, ground := Ground.phase }, { on := 2, ground := Ground.phase }, { on := 3, ground := Ground.phase }, { on := 4, ground := Ground.phase }, { on := 5, ground := Ground.phase }, { on := 6, ground := Ground.phase }, { on := 7, ground := Ground.phase }, { on := 8, ground := Ground.phase }], guard := none }) (v := ?_) rfl (by kernel_rfl) (by kernel_rfl) (by kernel_rfl) (fun _ _ _ h => h) (Or.inl ⟨by rfl, ?_⟩) (by assumption) ?_
              rotate_left 1
              · (intro W hSw; (try obtain ⟨hSw, hSw2⟩ := hSw); go_simp; try with_reducible rfl)
              try simp only [Act.put, List.setIfInBounds_toArray, List.set_cons_zero, List.set_cons_succ]
              refine wpAnyH_done (by kernel_rfl) ?_ _
              go_wp2_with fail
              go_meet
              exact ⟨rfl, B_4⟩
        · go_simp
          have B_5 := (B_1).alloc (B_1).size (.cells #[.string ⟨#[]⟩, .int .i64 0, .int .i64 0, .int .i64 0, .int .i64 0, .int .i64 0, .int .i64 0, .string ⟨#[]⟩, .string ⟨#[]⟩, .string ⟨#[]⟩, .slice none 0 0, .int .i64 0, .bool false] 40)
          have x_5 : ((wJ_1).alloc (.cells #[.string ⟨#[]⟩, .int .i64 0, .int .i64 0, .int .i64 0, .int .i64 0, .int .i64 0, .int .i64 0, .string ⟨#[]⟩, .string ⟨#[]⟩, .string ⟨#[]⟩, .slice none 0 0, .int .i64 0, .bool false] 40)).heap[wJ_1.heap.size]? = some (.cells #[.string ⟨#[]⟩, .int .i64 0, .int .i64 0, .int .i64 0, .int .i64 0, .int .i64 0, .int .i64 0, .string ⟨#[]⟩, .string ⟨#[]⟩, .string ⟨#[]⟩, .slice none 0 0, .int .i64 0, .bool false] 40 (0, 0)) := heap_alloc_new (wJ_1) (.cells #[.string ⟨#[]⟩, .int .i64 0, .int .i64 0, .int .i64 0, .int .i64 0, .int .i64 0, .int .i64 0, .string ⟨#[]⟩, .string ⟨#[]⟩, .string ⟨#[]⟩, .slice none 0 0, .int .i64 0, .bool false] 40)
          have l_5 : wJ_1.heap.size < ((wJ_1).alloc (.cells #[.string ⟨#[]⟩, .int .i64 0, .int .i64 0, .int .i64 0, .int .i64 0, .int .i64 0, .int .i64 0, .string ⟨#[]⟩, .string ⟨#[]⟩, .string ⟨#[]⟩, .slice none 0 0, .int .i64 0, .bool false] 40)).heap.size := (by show _ < _; rw [size_box]; exact Nat.lt_succ_self _)
          have hge_5 : w4.heap.size ≤ wJ_1.heap.size := (B_1).size
          refine hK.out _ _ (HS.out _ B_5) (fun hHeld => ?_)
          clear hK K
          try simp only [Act.put, List.setIfInBounds_toArray, List.set_cons_zero, List.set_cons_succ]
          refine wpAnyH_ready (rs := [3]) (by kernel_rfl) (by simp) ?_
          refine AllReadyH.cons (o := { dst := some 44, op := Op.call { callee := Callee.value (Operand.func 14), args := #[Operand.tmp 41, Operand.tmp 43], argTypes := #[26, 9] }, type := 42, pos := "law.go:179", after := #[{ on := 0, ground := Ground.data }, { on := 2, ground := Ground.data }, { on := 2, ground := Ground.chain }], guard := none }) rfl (fun K hK => ?_) AllReadyH.nil
          · go_simp
            go_at_call 14
            refine (KG.out _ (B_5)).mono ?_
            rintro e wG_6 ⟨rfl, kG_6⟩
            have B_6 := (B_5).trans (kG_6.mono (B_5).size)
            have x_6 := (kG_6.block _ l_5).trans x_5
            have l_6 := Nat.lt_of_lt_of_le l_5 kG_6.size
            go_wp2_with fail
            refine hK.out _ _ (HS.out _ B_6) (fun hHeld => ?_)
            clear hK K
            try simp only [Act.put, List.setIfInBounds_toArray, List.set_cons_zero, List.set_cons_succ]
            refine wpAnyH_take (i := 4) (oi := { dst := some 40, op := Op.move (Operand.tmp 44), type := 42, pos := "law.go:179", after := #[{ on := 3, ground := Ground.data }], guard := none }) (v := ?_) rfl (by kernel_rfl) (by kernel_rfl) (by kernel_rfl) (fun _ _ _ h => h) (Or.inl ⟨by rfl, ?_⟩) (by assumption) ?_
            rotate_left 1
            · (intro W hSw; (try obtain ⟨hSw, hSw2⟩ := hSw); go_simp; try with_reducible rfl)
            try simp only [Act.put, List.setIfInBounds_toArray, List.set_cons_zero, List.set_cons_succ]
            refine wpAnyH_take (i := 5) (oi := { dst := some 45, op := Op.extract (Operand.tmp 40) 0, type := 40, pos := "law.go:179", after := #[{ on := 4, ground := Ground.data }], guard := none }) (v := ?_) rfl (by kernel_rfl) (by kernel_rfl) (by kernel_rfl) (fun _ _ _ h => h) (Or.inl ⟨by rfl, ?_⟩) (by assumption) ?_
            rotate_left 1
            · (intro W hSw; (try obtain ⟨hSw, hSw2⟩ := hSw); go_simp; try with_reducible rfl)
            try simp only [Act.put, List.setIfInBounds_toArray, List.set_cons_zero, List.set_cons_succ]
            refine wpAnyH_take (i := 6) (oi := { dst := some 46, op := Op.extract (Operand.tmp 40) 1, type := 4, pos := "law.go:179", after := #[{ on := 4, ground := Ground.data }, { on := 8, ground := Ground.gcOnly Departure.lateStores }], guard := none }) (v := ?_) rfl (by kernel_rfl) (by kernel_rfl) (by kernel_rfl) (fun _ _ _ h => h) (Or.inl ⟨by rfl, ?_⟩) (by assumption) ?_
            rotate_left 1
            · (intro W hSw; (try obtain ⟨hSw, hSw2⟩ := hSw); go_simp; try with_reducible rfl)
            try simp only [Act.put, List.setIfInBounds_toArray, List.set_cons_zero, List.set_cons_succ]
            refine wpAnyH_ready (rs := [8]) (by kernel_rfl) (by simp) ?_
            refine AllReadyH.cons (o := { dst := none, op := Op.store 40 (Operand.tmp 8) (Operand.tmp 45), type := 0, pos := "law.go:179", after := #[{ on := 7, ground := Ground.data }, { on := 5, ground := Ground.data }, { on := 3, ground := Ground.chain }, { on := 0, ground := Ground.phase }, { on := 1, ground := Ground.phase }, { on := 2, ground := Ground.phase }, { on := 3, ground := Ground.phase }, { on := 4, ground := Ground.phase }, { on := 5, ground := Ground.phase }, { on := 6, ground := Ground.textOnly Departure.lateStores }, { on := 7, ground := Ground.phase }], guard := none }) rfl (fun K hK => ?_) AllReadyH.nil
            · have y_7 := cells_of x_6
              have f_7 := froz_of x_6
              have B_7 := (Below.setCell (Below.setCell (Below.setCell (Below.setCell (Below.setCell (Below.setCell (Below.setCell (Below.setCell (Below.setCell (Below.setCell (Below.setCell (Below.setCell (Below.setCell (B_6) (p := ⟨wJ_1.heap.size, 0, none⟩) (by exact hge_5) (.string (bs q.p))) (p := ⟨wJ_1.heap.size, 1, none⟩) (by exact hge_5) (.int .i64 q.id)) (p := ⟨wJ_1.heap.size, 2, none⟩) (by exact hge_5) (.int .i64 q.kind)) (p := ⟨wJ_1.heap.size, 3, none⟩) (by exact hge_5) (.int .i64 q.mode)) (p := ⟨wJ_1.heap.size, 4, none⟩) (by exact hge_5) (.int .i64 0)) (p := ⟨wJ_1.heap.size, 5, none⟩) (by exact hge_5) (.int .i64 0)) (p := ⟨wJ_1.heap.size, 6, none⟩) (by exact hge_5) (.int .i64 0)) (p := ⟨wJ_1.heap.size, 7, none⟩) (by exact hge_5) (.string ⟨#[]⟩)) (p := ⟨wJ_1.heap.size, 8, none⟩) (by exact hge_5) (.string ⟨#[]⟩)) (p := ⟨wJ_1.heap.size, 9, none⟩) (by exact hge_5) (.string ⟨#[]⟩)) (p := ⟨wJ_1.heap.size, 10, none⟩) (by exact hge_5) (.slice none 0 0)) (p := ⟨wJ_1.heap.size, 11, none⟩) (by exact hge_5) (.int .i64 q.size)) (p := ⟨wJ_1.heap.size, 12, none⟩) (by exact hge_5) (.bool q.made))
              go_simp
              refine hK.out _ _ (HS.out _ B_7) (fun hHeld => ?_)
              clear hK K
              try simp only [Act.put, List.setIfInBounds_toArray, List.set_cons_zero, List.set_cons_succ]
              refine wpAnyH_take (i := 9) (oi := { dst := some 9, op := Op.assign (Operand.tmp 46), type := 4, pos := "law.go:179", after := #[{ on := 6, ground := Ground.data }, { on := 8, ground := Ground.chain }, { on := 0, ground := Ground.phase }, { on := 1, ground := Ground.phase }, { on := 2, ground := Ground.phase }, { on := 3, ground := Ground.phase }, { on := 4, ground := Ground.phase }, { on := 5, ground := Ground.phase }, { on := 6, ground := Ground.phase }, { on := 7, ground := Ground.phase }, { on := 8, ground := Ground.phase }], guard := none }) (v := ?_) rfl (by kernel_rfl) (by kernel_rfl) (by kernel_rfl) (fun _ _ _ h => h) (Or.inl ⟨by rfl, ?_⟩) (by assumption) ?_
              rotate_left 1
              · (intro W hSw; (try obtain ⟨hSw, hSw2⟩ := hSw); go_simp; try with_reducible rfl)
              try simp only [Act.put, List.setIfInBounds_toArray, List.set_cons_zero, List.set_cons_succ]
              refine wpAnyH_done (by kernel_rfl) ?_ _
              go_wp2_with fail
              go_meet
              exact ⟨rfl, B_7⟩
      · go_simp
        have B_8 := ((Below.refl w4.heap.size w4).drew).alloc ((Below.refl w4.heap.size w4).drew).size (.cells #[.string ⟨#[]⟩, .int .i64 0, .int .i64 0, .int .i64 0, .int .i64 0, .int .i64 0, .int .i64 0, .string ⟨#[]⟩, .string ⟨#[]⟩, .string ⟨#[]⟩, .slice none 0 0, .int .i64 0, .bool false] 40)
        have x_8 : ((w4.drew).alloc (.cells #[.string ⟨#[]⟩, .int .i64 0, .int .i64 0, .int .i64 0, .int .i64 0, .int .i64 0, .int .i64 0, .string ⟨#[]⟩, .string ⟨#[]⟩, .string ⟨#[]⟩, .slice none 0 0, .int .i64 0, .bool false] 40)).heap[w4.heap.size]? = some (.cells #[.string ⟨#[]⟩, .int .i64 0, .int .i64 0, .int .i64 0, .int .i64 0, .int .i64 0, .int .i64 0, .string ⟨#[]⟩, .string ⟨#[]⟩, .string ⟨#[]⟩, .slice none 0 0, .int .i64 0, .bool false] 40 (0, 0)) := heap_alloc_new (w4.drew) (.cells #[.string ⟨#[]⟩, .int .i64 0, .int .i64 0, .int .i64 0, .int .i64 0, .int .i64 0, .int .i64 0, .string ⟨#[]⟩, .string ⟨#[]⟩, .string ⟨#[]⟩, .slice none 0 0, .int .i64 0, .bool false] 40)
        have l_8 : w4.heap.size < ((w4.drew).alloc (.cells #[.string ⟨#[]⟩, .int .i64 0, .int .i64 0, .int .i64 0, .int .i64 0, .int .i64 0, .int .i64 0, .string ⟨#[]⟩, .string ⟨#[]⟩, .string ⟨#[]⟩, .slice none 0 0, .int .i64 0, .bool false] 40)).heap.size := (by show _ < _; rw [size_box]; exact Nat.lt_succ_self _)
        have hge_8 : w4.heap.size ≤ w4.heap.size := ((Below.refl w4.heap.size w4).drew).size
        refine hK.out _ _ (HS.out _ B_8) (fun hHeld => ?_)
        clear hK K
        try simp only [Act.put, List.setIfInBounds_toArray, List.set_cons_zero, List.set_cons_succ]
        refine wpAnyH_ready (rs := [2]) (by kernel_rfl) (by simp) ?_
        refine AllReadyH.cons (o := { dst := some 43, op := Op.call { callee := Callee.value (Operand.func 13), args := #[Operand.tmp 42], argTypes := #[23] }, type := 9, pos := "law.go:179", after := #[{ on := 1, ground := Ground.data }], guard := none }) rfl (fun K hK => ?_) AllReadyH.nil
        · go_simp
          go_at_call 13
          refine (KJ.out _ (B_8)).mono ?_
          rintro e wJ_9 ⟨rfl, kJ_9⟩
          have B_9 := (B_8).trans (kJ_9.mono (B_8).size)
          have x_9 := (kJ_9.block _ l_8).trans x_8
          have l_9 := Nat.lt_of_lt_of_le l_8 kJ_9.size
          go_wp2_with fail
          refine hK.out _ _ (HS.out _ B_9) (fun hHeld => ?_)
          clear hK K
          try simp only [Act.put, List.setIfInBounds_toArray, List.set_cons_zero, List.set_cons_succ]
          refine wpAnyH_ready (rs := [3]) (by kernel_rfl) (by simp) ?_
          refine AllReadyH.cons (o := { dst := some 44, op := Op.call { callee := Callee.value (Operand.func 14), args := #[Operand.tmp 41, Operand.tmp 43], argTypes := #[26, 9] }, type := 42, pos := "law.go:179", after := #[{ on := 0, ground := Ground.data }, { on := 2, ground := Ground.data }, { on := 2, ground := Ground.chain }], guard := none }) rfl (fun K hK => ?_) AllReadyH.nil
          · go_simp
            go_at_call 14
            refine (KG.out _ (B_9)).mono ?_
            rintro e wG_10 ⟨rfl, kG_10⟩
            have B_10 := (B_9).trans (kG_10.mono (B_9).size)
            have x_10 := (kG_10.block _ l_9).trans x_9
            have l_10 := Nat.lt_of_lt_of_le l_9 kG_10.size
            go_wp2_with fail
            refine hK.out _ _ (HS.out _ B_10) (fun hHeld => ?_)
            clear hK K
            try simp only [Act.put, List.setIfInBounds_toArray, List.set_cons_zero, List.set_cons_succ]
            refine wpAnyH_take (i := 4) (oi := { dst := some 40, op := Op.move (Operand.tmp 44), type := 42, pos := "law.go:179", after := #[{ on := 3, ground := Ground.data }], guard := none }) (v := ?_) rfl (by kernel_rfl) (by kernel_rfl) (by kernel_rfl) (fun _ _ _ h => h) (Or.inl ⟨by rfl, ?_⟩) (by assumption) ?_
            rotate_left 1
            · (intro W hSw; (try obtain ⟨hSw, hSw2⟩ := hSw); go_simp; try with_reducible rfl)
            try simp only [Act.put, List.setIfInBounds_toArray, List.set_cons_zero, List.set_cons_succ]
            refine wpAnyH_take (i := 5) (oi := { dst := some 45, op := Op.extract (Operand.tmp 40) 0, type := 40, pos := "law.go:179", after := #[{ on := 4, ground := Ground.data }], guard := none }) (v := ?_) rfl (by kernel_rfl) (by kernel_rfl) (by kernel_rfl) (fun _ _ _ h => h) (Or.inl ⟨by rfl, ?_⟩) (by assumption) ?_
            rotate_left 1
            · (intro W hSw; (try obtain ⟨hSw, hSw2⟩ := hSw); go_simp; try with_reducible rfl)
            try simp only [Act.put, List.setIfInBounds_toArray, List.set_cons_zero, List.set_cons_succ]
            refine wpAnyH_take (i := 6) (oi := { dst := some 46, op := Op.extract (Operand.tmp 40) 1, type := 4, pos := "law.go:179", after := #[{ on := 4, ground := Ground.data }, { on := 8, ground := Ground.gcOnly Departure.lateStores }], guard := none }) (v := ?_) rfl (by kernel_rfl) (by kernel_rfl) (by kernel_rfl) (fun _ _ _ h => h) (Or.inl ⟨by rfl, ?_⟩) (by assumption) ?_
            rotate_left 1
            · (intro W hSw; (try obtain ⟨hSw, hSw2⟩ := hSw); go_simp; try with_reducible rfl)
            try simp only [Act.put, List.setIfInBounds_toArray, List.set_cons_zero, List.set_cons_succ]
            refine wpAnyH_ready (rs := [8]) (by kernel_rfl) (by simp) ?_
            refine AllReadyH.cons (o := { dst := none, op := Op.store 40 (Operand.tmp 8) (Operand.tmp 45), type := 0, pos := "law.go:179", after := #[{ on := 7, ground := Ground.data }, { on := 5, ground := Ground.data }, { on := 3, ground := Ground.chain }, { on := 0, ground := Ground.phase }, { on := 1, ground := Ground.phase }, { on := 2, ground := Ground.phase }, { on := 3, ground := Ground.phase }, { on := 4, ground := Ground.phase }, { on := 5, ground := Ground.phase }, { on := 6, ground := Ground.textOnly Departure.lateStores }, { on := 7, ground := Ground.phase }], guard := none }) rfl (fun K hK => ?_) AllReadyH.nil
            · have y_11 := cells_of x_10
              have f_11 := froz_of x_10
              have B_11 := (Below.setCell (Below.setCell (Below.setCell (Below.setCell (Below.setCell (Below.setCell (Below.setCell (Below.setCell (Below.setCell (Below.setCell (Below.setCell (Below.setCell (Below.setCell (B_10) (p := ⟨w4.heap.size, 0, none⟩) (by exact hge_8) (.string (bs q.p))) (p := ⟨w4.heap.size, 1, none⟩) (by exact hge_8) (.int .i64 q.id)) (p := ⟨w4.heap.size, 2, none⟩) (by exact hge_8) (.int .i64 q.kind)) (p := ⟨w4.heap.size, 3, none⟩) (by exact hge_8) (.int .i64 q.mode)) (p := ⟨w4.heap.size, 4, none⟩) (by exact hge_8) (.int .i64 0)) (p := ⟨w4.heap.size, 5, none⟩) (by exact hge_8) (.int .i64 0)) (p := ⟨w4.heap.size, 6, none⟩) (by exact hge_8) (.int .i64 0)) (p := ⟨w4.heap.size, 7, none⟩) (by exact hge_8) (.string ⟨#[]⟩)) (p := ⟨w4.heap.size, 8, none⟩) (by exact hge_8) (.string ⟨#[]⟩)) (p := ⟨w4.heap.size, 9, none⟩) (by exact hge_8) (.string ⟨#[]⟩)) (p := ⟨w4.heap.size, 10, none⟩) (by exact hge_8) (.slice none 0 0)) (p := ⟨w4.heap.size, 11, none⟩) (by exact hge_8) (.int .i64 q.size)) (p := ⟨w4.heap.size, 12, none⟩) (by exact hge_8) (.bool q.made))
              go_simp
              refine hK.out _ _ (HS.out _ B_11) (fun hHeld => ?_)
              clear hK K
              try simp only [Act.put, List.setIfInBounds_toArray, List.set_cons_zero, List.set_cons_succ]
              refine wpAnyH_take (i := 9) (oi := { dst := some 9, op := Op.assign (Operand.tmp 46), type := 4, pos := "law.go:179", after := #[{ on := 6, ground := Ground.data }, { on := 8, ground := Ground.chain }, { on := 0, ground := Ground.phase }, { on := 1, ground := Ground.phase }, { on := 2, ground := Ground.phase }, { on := 3, ground := Ground.phase }, { on := 4, ground := Ground.phase }, { on := 5, ground := Ground.phase }, { on := 6, ground := Ground.phase }, { on := 7, ground := Ground.phase }, { on := 8, ground := Ground.phase }], guard := none }) (v := ?_) rfl (by kernel_rfl) (by kernel_rfl) (by kernel_rfl) (fun _ _ _ h => h) (Or.inl ⟨by rfl, ?_⟩) (by assumption) ?_
              rotate_left 1
              · (intro W hSw; (try obtain ⟨hSw, hSw2⟩ := hSw); go_simp; try with_reducible rfl)
              try simp only [Act.put, List.setIfInBounds_toArray, List.set_cons_zero, List.set_cons_succ]
              refine wpAnyH_done (by kernel_rfl) ?_ _
              go_wp2_with fail
              go_meet
              exact ⟨rfl, B_11⟩
    case rest =>
      obtain ⟨rfl, B5⟩ := hcut
      clear KJ KG HS
      cases F with
      | true =>
        go_wp2_with fail
        go_ret
        exact ⟨rfl, B4.out.trans (B5.out.mono B4.out.size)⟩
      | false =>
        have hgr := HG3.out rfl
        go_upto_region 10 with fail
        go_cut [10, 11] (fun s10 s11 wx => ∃ g10 g11, s10 = .pointer (some ⟨g10, 0, none⟩) ∧ s11 = .pointer (some ⟨g11, 0, none⟩) ∧ Hid (wx.heap[g10]? = some (.cells #[.int .i64 (u.b : Int), .int .i64 (u.n : Int), .int .i64 (u.d : Int), .int .i64 (u.l : Int)] 54 (0, 0))) ∧ Hid (wx.heap[g11]? = some (.cells #[.int .i64 (v.b : Int), .int .i64 (v.n : Int), .int .i64 (v.d : Int), .int .i64 (v.l : Int)] 54 (0, 0))) ∧ Hid (Below w.heap.size w wx))
        case first =>
          have B5a : Below w.heap.size w wc := B4.out.trans (B5.out.mono B4.out.size)
          have hsd2 := plantL_sd (X ++ [x])
          have hl2 : (X ++ [x]).length ≤ 41 := by simp; omega
          have hn2 := hsd2.2.1
          have hn3 := hsd2.2.2
          refine reg10 _ _ _ _ _ _ _ _ _ _ _ _ _ _ _ _ _ _ _ _ _ _ _ _ _ _ _ _ _ _ _ _ _ _ _ _ _ _ _ _ _ _ _ _ _ _ _ _ _ _ _ _ _ _ _ _ _ _ _ _ _ _ _ _ _ _ _ _ _ _ _ _ _ _ _ _ _ _ _ _ _ _ _ _ _ _ _ _ _ _ _ ad0 cap0 X x ad n cap nx g7 w.heap.size u v (plantL (X ++ [x])).1 (plantL (X ++ [x])).2 wc (HX.out.below B5a) hnil0 hnX ?_ ?_ ?_ ?_ (fun _ _ _ _ _ h => h) ?_
          · exact fun W hb => ⟨cells_of ((hb.block _ (Nat.lt_of_lt_of_le hg7 B5.out.size)).trans ((B5.out.block _ hg7).trans Q7.out)), cells_of ((hb.block _ (Nat.lt_of_lt_of_le hg4 B5.out.size)).trans ((B5.out.block _ hg4).trans Q4.out))⟩
          · exact fun W hb => by
              have g := of_w ad cap nx L W (HM.out.below (B5a.trans (hb.mono B5a.size))) ((R4.out.below B5.out).below hb) (by rw [HLn.out]; omega) HO.out
              rw [HLn.out, Hu.out] at g
              exact g
          · exact fun W vv hO hb => by
              obtain ⟨ad2, c2, rfl, hT⟩ := hO.ts
              exact planted_w ad2 c2 (X ++ [x]) W (HM.out.below (B5a.trans (hb.mono B5a.size))) hT (fun y hy => by
                rcases List.mem_append.1 hy with h | h
                · exact HXo.out y h
                · rw [List.mem_singleton.1 h]; exact hxo) hl2
          · exact fun W vv hT hb => by
              obtain ⟨ad2, c2, rfl, hr, _, _⟩ := hT
              have g := of_w ad2 c2 (plantL (X ++ [x])).2 (plantL (X ++ [x])).1 W (HM.out.below (B5a.trans (hb.mono B5a.size))) hr (by omega) (hsd2.1.okr (by omega))
              rw [Hv.out] at g
              exact g
          · intro v50 v52 v54 v55 v56 g10 g11 W h10 h11 hb
            go_wp2_with fail
            go_meet
            exact ⟨g10, g11, rfl, rfl, h10, h11, B5a.trans (hb.mono B5a.size)⟩
        case rest =>
          obtain ⟨g10, g11, rfl, rfl, Q10, Q11, B6⟩ := hcut
          have m10 := cells_of Q10.out
          have m11 := cells_of Q11.out
          have y1 : (v.b : Int) ≥ (u.b : Int) := by omega
          have y2 : (v.n : Int) ≥ (u.n : Int) := by omega
          have y3 : (v.d : Int) ≥ (u.d : Int) := by omega
          have y4 : (v.l : Int) ≥ (u.l : Int) := by omega
          have y5 : (v.b : Int) - (u.b : Int) ≤ 1048576 := by omega
          have y6 : u.b ≤ 1000000000000000 := by omega
          clear hgr HG3
          go_wp2_with fail
          go_ret
          exact ⟨rfl, B6.out⟩
  · have hte : x.t.isEmpty = false := by simpa using ht
    go_wp2_with fail
    all_goals (go_ret; exact ⟨rfl, B2.out⟩)

theorem growsLaw (ad0 : Option Addr) (n cap0 : Nat) (X : List Tg) (x : Tg) (w : World) (hm : Ml w) (z0 : X.length = n ∧ n ≤ cap0 ∧ cap0 ≤ 9223372036854775807 ∧ Ts w ad0 X ∧ (∀ x ∈ X, Tg.ok x) ∧ (ad0 = none → cap0 = 0)) (z1 : x.ok) :
    Calls Tryd.prog 9 #[.slice ad0 n cap0, .agg x.cs.toArray] w fun e w' => e = .returned (.bool true) ∧ Below w.heap.size w w' := by
  obtain ⟨rfl, h1, _, hT, ho, hn⟩ := z0
  exact grows_w ad0 cap0 X x w hm z1 hT ho h1 hn

end Go.Proofs.YtojnniacmmcddaaDoor
