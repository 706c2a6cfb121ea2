/-
  The law UsageCuts, its walk.
-/
import Derived.Test.YtojnniacmmcddaaDoorGc
import Derived.Test.YtojnniacmmcddaaDoorN1
import Derived.Deep.RegionHeld3
namespace Go.Proofs.YtojnniacmmcddaaDoor
open Go.RowKit
open Go.Lib hiding intOf
set_option linter.unusedVariables false
set_option linter.unusedSimpArgs false

/-- Cut, plain -/
def cutP (L : List Rw) (nx : Int) (s : List UInt8) : List Rw × Int × Int := if fd L s = false ∧ s ≠ [] then ([], 0, 4) else (L.filter (fun r => !und s r.p), nx, 0)

theorem cut_w (ad : Option Addr) (cap : Nat) (nx : Int) (L : List Rw) (s : List UInt8) (w : World) (hS : Sd L nx) (hr : Rs w ad L) (hl : L.length ≤ 900000) (hsl : s.length ≤ 1000) :
    Calls Tryd.prog 22 #[.agg #[.slice ad L.length cap, .int .i64 nx], .string (bs s)] w fun e w' => ∃ ad2 cap2, e = .returned (.tuple #[.agg #[.slice ad2 (cutP L nx s).1.length cap2, .int .i64 (cutP L nx s).2.1], .int .i64 (cutP L nx s).2.2]) ∧ Rs w' ad2 (cutP L nx s).1 ∧ Below w.heap.size w w' := by
  have hp : ∀ r ∈ L, r.p.length ≤ 4611686018427387903 := fun r hr => by have := (hS.ok r hr).1; omega
  have KA : ∀ W, Below w.heap.size w W → Calls Tryd.prog 28 #[.agg #[.slice ad L.length cap, .int .i64 nx], .string (bs s)] W fun e w' => e = .returned (.tuple #[.agg (atR L s).cs.toArray, .bool (fd L s)]) ∧ Below W.heap.size W w' := fun W hb => at_w ad cap nx L s W hS.srt (hr.below hb) (by omega) hp (by omega)
  have KK : ∀ W gs, Below w.heap.size w W → W.cell? ⟨gs, 0, none⟩ = some (.string (bs s)) → Calls Tryd.prog 34 #[.slice ad L.length cap, .func (.func 46) #[] #[.pointer (some ⟨gs, 0, none⟩)]] W fun e w' => ∃ v, e = .returned v ∧ Ow w' W.heap.size v (L.filter (fun r => !und s r.p)) ∧ Below W.heap.size W w' := fun W gs hb hc => pick_w ad cap L (fun r => !und s r.p) gs W (hr.below hb) (by omega) (fun W2 r h2 => cutf_w r s gs W2 ((h2.cell (p := ⟨gs, 0, none⟩) (World.block_lt_of_cell? W _ hc)).trans hc))
  unfold cutP
  by_cases h : fd L s = false ∧ s ≠ []
  · rw [if_pos h]
    rw [h.1] at KA
    refine (cut_miss ad cap L.length nx s (atR L s) w h.2 KA).mono ?_
    rintro e w' ⟨rfl, hb⟩
    exact ⟨none, 0, rfl, .inl rfl, hb⟩
  · rw [if_neg h]
    cases hf : fd L s with
    | true =>
      rw [hf] at KA
      exact cut_yes ad cap L.length nx s (atR L s) w _ KA KK
    | false =>
      have hs0 : s = [] := Classical.byContradiction fun e => h ⟨hf, e⟩
      subst hs0
      rw [hf] at KA
      exact cut_root ad cap L.length nx (atR L []) w _ KA KK

set_option maxRecDepth 20000 in
set_option maxHeartbeats 8000000 in
theorem cuts_w (ad0 : Option Addr) (cap0 : Nat) (X : List Tg) (s : List UInt8) (x : Tg) (w : World) (hm : Ml w) (hsl : s.length ≤ 9223372036854775807)
    (KPl : Hid (X.length ≤ 41 → ∀ W, Below w.heap.size w W → Calls Tryd.prog 19 #[.slice ad0 X.length cap0] W fun e w' => ∃ v, e = .returned v ∧ Tm w' v (plantL X).1 (plantL X).2 ∧ Below W.heap.size W w')) :
    Calls Tryd.prog 5 #[.slice ad0 X.length cap0, .string (bs s), .agg #[.string (bs x.p), .string (bs x.t), .int .i64 x.k, .int .i64 x.z]] w fun e w' => e = .returned (.bool true) ∧ Below w.heap.size w w' := by
  have KM : Hid (∀ W, Below w.heap.size w W → Calls Tryd.prog 18 #[] W fun e w' => e = .returned (.bool true) ∧ Below W.heap.size W w') := fun W hb => measures_w W (hm.below hb)
  have HM : Hid (Ml w) := hm
  have KCl : Hid (∀ W, Below w.heap.size w W → Calls Tryd.prog 12 #[.string (bs s)] W fun e w' => ∃ ad c, e = .returned (.tuple #[.slice ad (cln s).length c, .int .i64 (err s)]) ∧ (cln s).length ≤ c ∧ Sl w' ad (cln s) ∧ Below W.heap.size W w') := fun W hb => clean_sl s hsl W (hm.below hb)
  have hcc := cln_count s
  have hcl := cln_len s
  have HCP : Hid (err s = 0 → jn (cln s) = [] ∨ Cp (jn (cln s))) := fun h => cln_cp h
  have hbs := bs_size s
  clear hm
  obtain ⟨hSd, hlen, hnx⟩ := plantL_sd X
  have HSd : Hid (Sd (plantL X).1 (plantL X).2) := hSd
  have HL1 : Hid ((plantL X).1.length ≤ 301 * X.length) := hlen
  have HN1 : Hid ((plantL X).2 ≤ 301 * (X.length : Int)) := hnx
  clear hSd hlen hnx
  generalize hnX : X.length = nX at *
  generalize he1 : err s = e1 at *
  generalize (plantL X).1 = L at *
  generalize (plantL X).2 = nx at *
  clear he1 hnX
  go_enter Tryd.func5, Tryd.ntmps5
  have hbx := below_box w (.cells #[.string (bs x.p), .string (bs x.t), .int .i64 x.k, .int .i64 x.z] 59)
  go_upto_region 3 with (go_at_call 18; refine (KM.out _ hbx).mono ?_; rintro e w1 ⟨rfl, k1'⟩)
  have k1 : Below w.heap.size w w1 := hbx.trans (k1'.mono hbx.size)
  clear k1' hbx
  go_upto_region 4 with (go_at_call 12; refine (KCl.out _ k1).mono ?_; rintro e w2 ⟨a1, c1, rfl, hc1, S1, k2⟩)
  have B2 : Hid (Below w.heap.size w w2) := k1.trans (k2.mono k1.size)
  have S2 : Hid (Sl w2 a1 (cln s)) := S1
  clear k1 k2 S1 KM KCl
  go_upto_region 6 with fail
  all_goals try (go_ret; exact ⟨rfl, B2.out⟩)
  have KP := KPl.out (by omega)
  have HE0 : Hid (jn (cln s) = [] ∨ Cp (jn (cln s))) := HCP.out (by assumption)
  have hs300 : s.length ≤ 300 := by omega
  have HP : Hid (∀ W, Below w.heap.size w W → Calls Tryd.prog 19 #[.slice ad0 nX cap0] W fun e w' => ∃ v, e = .returned v ∧ Tm w' v L nx ∧ Below W.heap.size W w') := KP
  have hLn : L.length ≤ 100000 := by have := HL1.out; omega
  have hNx : nx ≤ 900000000 := by have := HN1.out; omega
  clear KP KPl HCP HL1 HN1
  have HO : Hid (∀ r ∈ L, Okr r) := HSd.out.okr (by omega)
  obtain ⟨u, hu⟩ : ∃ u, ofU L = u := ⟨_, rfl⟩
  have Hu : Hid (ofU L = u) := hu
  have hsm := ofU_small L HO.out
  rw [hu] at hsm
  have KO : Hid (∀ W ad cap, Ml W → Rs W ad L → Calls Tryd.prog 20 #[.agg #[.slice ad L.length cap, .int .i64 nx]] W fun e w' => e = .returned (.agg #[.int .i64 (u.b : Int), .int .i64 (u.n : Int), .int .i64 (u.d : Int), .int .i64 (u.l : Int)]) ∧ Below W.heap.size W w') := fun W ad cap hm h1 => by
    show Calls _ _ _ _ _
    rw [← hu]; exact of_w ad cap nx L W hm h1 (by omega) HO.out
  clear hu
  go_upto_region 7 with (go_at_call 19; refine (HP.out _ B2.out).mono ?_; rintro e w3 ⟨v, rfl, ⟨ad, cap, rfl, R3, C3', N3⟩, k3⟩)
  have hb4 := below_box w3 (.cells #[.slice ad L.length cap, .int .i64 nx] 26)
  have hq4 := heap_alloc_new w3 (.cells #[.slice ad L.length cap, .int .i64 nx] 26)
  have hs4 := size_box w3 (.cells #[.slice ad L.length cap, .int .i64 nx] 26)
  generalize w3.alloc _ = w4 at *
  have k4 : Below w2.heap.size w2 w4 := k3.trans (hb4.mono k3.size)
  have B4 : Hid (Below w.heap.size w w4) := B2.out.trans (k4.mono B2.out.size)
  have R4 : Hid (Rs w4 ad L) := R3.below hb4
  have S4 : Hid (Sl w4 a1 (cln s)) := S2.out.below k4
  have M4 : Hid (Ml w4) := HM.out.below B4.out
  have m4 := cells_of hq4
  clear hb4 k3 R3 HP k4 B2 S2
  go_upto_region 8 with (go_at_call 20; refine (KO.out _ ad cap M4.out R4.out).mono ?_; rintro e w5' ⟨rfl, k5⟩)
  have hb5 := below_box w5' (.cells #[.int .i64 (u.b : Int), .int .i64 (u.n : Int), .int .i64 (u.d : Int), .int .i64 (u.l : Int)] 54)
  have hq5 := heap_alloc_new w5' (.cells #[.int .i64 (u.b : Int), .int .i64 (u.n : Int), .int .i64 (u.d : Int), .int .i64 (u.l : Int)] 54)
  have hs5 := size_box w5' (.cells #[.int .i64 (u.b : Int), .int .i64 (u.n : Int), .int .i64 (u.d : Int), .int .i64 (u.l : Int)] 54)
  generalize w5'.alloc _ = w5 at *
  have k5' : Below w4.heap.size w4 w5 := k5.trans (hb5.mono k5.size)
  have B5 : Hid (Below w.heap.size w w5) := B4.out.trans (k5'.mono B4.out.size)
  have R5 : Hid (Rs w5 ad L) := R4.out.below k5'
  have S5 : Hid (Sl w5 a1 (cln s)) := S4.out.below k5'
  have M5 : Hid (Ml w5) := HM.out.below B5.out
  have Q4 : Hid (w5.heap[w3.heap.size]? = some (.cells #[.slice ad L.length cap, .int .i64 nx] 26 (0, 0))) := (k5'.block _ (by omega)).trans hq4
  have Q5 : Hid (w5.heap[w5'.heap.size]? = some (.cells #[.int .i64 (u.b : Int), .int .i64 (u.n : Int), .int .i64 (u.d : Int), .int .i64 (u.l : Int)] 54 (0, 0))) := hq5
  have hg9 : w3.heap.size < w5.heap.size := by have := k5'.size; omega
  have hg10 : w5'.heap.size < w5.heap.size := by omega
  have m5 := cells_of Q4.out
  clear m4 k5 hb5 hq5 hs5 hs4 B4 R4 S4 M4 hq4 k5'
  generalize w3.heap.size = g9 at *
  generalize w5'.heap.size = g10 at *
  generalize hn : L.length = n at *
  have HLn : Hid (L.length = n) := hn
  clear hn
  have KC0 : Hid (∀ W, Below w5.heap.size w5 W → Calls Tryd.prog 22 #[.agg #[.slice ad n cap, .int .i64 nx], .string ⟨#[]⟩] W fun e w' => ∃ ad2 cap2, e = .returned (.tuple #[.agg #[.slice ad2 0 cap2, .int .i64 nx], .int .i64 0]) ∧ Below W.heap.size W w') := fun W hb => by
    have g := cut_w ad cap nx L [] W HSd.out (R5.out.below hb) (by rw [HLn.out]; omega) (by simp)
    have e : cutP L nx [] = ([], nx, 0) := by unfold cutP; rw [if_neg (fun h => h.2 rfl), ofU_root]
    rw [e, HLn.out] at g
    refine Calls.mono g ?_
    rintro e w' ⟨ad2, cap2, rfl, _, hb⟩
    exact ⟨ad2, cap2, rfl, hb⟩
  have KO0 : Hid (∀ W ad c, Ml W → Calls Tryd.prog 20 #[.agg #[.slice ad 0 c, .int .i64 nx]] W fun e w' => e = .returned (.agg #[.int .i64 0, .int .i64 0, .int .i64 0, .int .i64 0]) ∧ Below W.heap.size W w') := fun W ad c hm => of_w ad c nx [] W hm (.inl rfl) (by simp) (fun r hr => nomatch hr)
  obtain ⟨LK, hLK⟩ : ∃ LK, cutP L nx (jn (cln s)) = LK := ⟨_, rfl⟩
  have hcut1 : LK.2.2 = 0 → (ofU LK.1).n ≤ u.n ∧ (ofU LK.1).b ≤ u.b ∧ (ofU LK.1).d ≤ u.d ∧ (ofU LK.1).l ≤ u.l := by
    intro h0
    rw [← hLK] at h0 ⊢
    unfold cutP at h0 ⊢
    split at h0
    · exact absurd h0 (by show (4 : Int) ≠ 0; omega)
    · rename_i hh
      rw [if_neg hh, ← Hu.out]
      exact ofU_filter HSd.out _
  have hokL : ∀ q ∈ LK.1, Okr q := by
    intro q hq
    rw [← hLK] at hq
    unfold cutP at hq
    split at hq
    · cases hq
    · exact HO.out q (List.mem_filter.1 hq).1
  have hlenL : LK.1.length ≤ 1000000 := by
    rw [← hLK]
    unfold cutP
    split
    · exact Nat.zero_le _
    · have := List.length_filter_le (fun r : Rw => !und (jn (cln s)) r.p) L
      have e := HLn.out
      show (L.filter _).length ≤ _
      omega
  have HC1 : Hid (LK.2.2 = 0 → (ofU LK.1).n ≤ u.n ∧ (ofU LK.1).b ≤ u.b ∧ (ofU LK.1).d ≤ u.d ∧ (ofU LK.1).l ≤ u.l) := hcut1
  have HokL : Hid (∀ q ∈ LK.1, Okr q) := hokL
  have KJ : Hid (∀ W, Below w5.heap.size w5 W → Calls Tryd.prog 13 #[.slice a1 (cln s).length c1] W fun e w' => e = .returned (.string (bs (jn (cln s)))) ∧ Below W.heap.size W w') := fun W hb => join_w a1 c1 (cln s) W (S5.out.below hb) hc1 (by omega) (by omega)
  have KL : Hid (∀ W, Below w5.heap.size w5 W → Calls Tryd.prog 22 #[.agg #[.slice ad n cap, .int .i64 nx], .string (bs (jn (cln s)))] W fun e w' => ∃ ad2 cap2, e = .returned (.tuple #[.agg #[.slice ad2 LK.1.length cap2, .int .i64 LK.2.1], .int .i64 LK.2.2]) ∧ Rs w' ad2 LK.1 ∧ Below W.heap.size W w') := fun W hb => by
    have g := cut_w ad cap nx L (jn (cln s)) W HSd.out (R5.out.below hb) (by rw [HLn.out]; omega) (by omega)
    rw [hLK, HLn.out] at g
    exact g
  have HS : Hid (∀ W, Below w5.heap.size w5 W → (fun W : World => ∀ k, W.cell? ⟨g9, k, none⟩ = (#[.slice ad n cap, .int .i64 nx] : Array Value)[k]?) W) := fun W hb => cells_of ((hb.block _ hg9).trans Q4.out)
  clear hLK hcut1 hokL m5
  go_cut [11, 12] (fun s11 s12 wx => ∃ g11 ad2 cap2, s11 = .pointer (some ⟨g11, 0, none⟩) ∧ s12 = .int .i64 LK.2.2 ∧ Hid (Below w5.heap.size w5 wx) ∧ Hid (wx.heap[g11]? = some (.cells #[.slice ad2 LK.1.length cap2, .int .i64 LK.2.1] 26 (0, 0))) ∧ Hid (Rs wx ad2 LK.1))
  case first =>
    have h0 := HS.out _ ((Below.refl w5.heap.size w5).drew)
    refine wp_region_held_drew (S := (fun W : World => ∀ k, W.cell? ⟨g9, k, none⟩ = (#[.slice ad n cap, .int .i64 nx] : Array Value)[k]?)) (by kernel_rfl) h0 (fun hHeld => ?_)
    refine wpAnyH_take (i := 0) (oi := { dst := some 46, op := Op.load 26 (Operand.tmp 9), type := 26, pos := "law.go:88", after := #[], guard := none }) (v := ?_) rfl (by kernel_rfl) (by kernel_rfl) (by kernel_rfl) (fun _ _ _ h => h) (Or.inl ⟨by rfl, ?_⟩) (by assumption) ?_
    rotate_left 1
    · (intro W hSw; (try obtain ⟨hSw, hSw2⟩ := hSw); go_simp; try with_reducible rfl)
    try simp only [Act.put, List.setIfInBounds_toArray, List.set_cons_zero, List.set_cons_succ]
    refine wpAnyH_take (i := 1) (oi := { dst := some 47, op := Op.move (Operand.tmp 7), type := 23, pos := "law.go:88", after := #[], guard := none }) (v := ?_) rfl (by kernel_rfl) (by kernel_rfl) (by kernel_rfl) (fun _ _ _ h => h) (Or.inl ⟨by rfl, ?_⟩) (by assumption) ?_
    rotate_left 1
    · (intro W hSw; (try obtain ⟨hSw, hSw2⟩ := hSw); go_simp; try with_reducible rfl)
    try simp only [Act.put, List.setIfInBounds_toArray, List.set_cons_zero, List.set_cons_succ]
    refine wpAnyH_ready (rs := [2, 7]) (by kernel_rfl) (by simp) ?_
    refine AllReadyH.cons (o := { dst := some 48, op := Op.call { callee := Callee.value (Operand.func 13), args := #[Operand.tmp 47], argTypes := #[23] }, type := 9, pos := "law.go:88", after := #[{ on := 1, ground := Ground.data }], guard := none }) rfl (fun K hK => ?_) (AllReadyH.cons (o := { dst := some 11, op := Op.alloc 26, type := 0, pos := "law.go:88", after := #[], guard := none }) rfl (fun K hK => ?_) AllReadyH.nil)
    · go_simp
      go_at_call 13
      refine (KJ.out _ ((Below.refl w5.heap.size w5).drew)).mono ?_
      rintro e wJ_1 ⟨rfl, kJ_1⟩
      have B_1 := ((Below.refl w5.heap.size w5).drew).trans (kJ_1.mono ((Below.refl w5.heap.size w5).drew).size)
      go_wp2_with fail
      refine hK.out _ _ (HS.out _ B_1) (fun hHeld => ?_)
      clear hK K
      try simp only [Act.put, List.setIfInBounds_toArray, List.set_cons_zero, List.set_cons_succ]
      refine wpAnyH_ready (rs := [3, 7]) (by kernel_rfl) (by simp) ?_
      refine AllReadyH.cons (o := { dst := some 49, op := Op.call { callee := Callee.value (Operand.func 22), args := #[Operand.tmp 46, Operand.tmp 48], argTypes := #[26, 9] }, type := 28, pos := "law.go:88", after := #[{ on := 0, ground := Ground.data }, { on := 2, ground := Ground.data }, { on := 2, ground := Ground.chain }], guard := none }) rfl (fun K hK => ?_) (AllReadyH.cons (o := { dst := some 11, op := Op.alloc 26, type := 0, pos := "law.go:88", after := #[], guard := none }) rfl (fun K hK => ?_) AllReadyH.nil)
      · go_simp
        go_at_call 22
        refine (KL.out _ (B_1)).mono ?_
        rintro e wL_2 ⟨ad2_2, cap2_2, rfl, R_2, kL_2⟩
        have B_2 := (B_1).trans (kL_2.mono (B_1).size)
        go_wp2_with fail
        refine hK.out _ _ (HS.out _ B_2) (fun hHeld => ?_)
        clear hK K
        try simp only [Act.put, List.setIfInBounds_toArray, List.set_cons_zero, List.set_cons_succ]
        refine wpAnyH_take (i := 4) (oi := { dst := some 45, op := Op.move (Operand.tmp 49), type := 28, pos := "law.go:88", after := #[{ on := 3, ground := Ground.data }], guard := none }) (v := ?_) rfl (by kernel_rfl) (by kernel_rfl) (by kernel_rfl) (fun _ _ _ h => h) (Or.inl ⟨by rfl, ?_⟩) (by assumption) ?_
        rotate_left 1
        · (intro W hSw; (try obtain ⟨hSw, hSw2⟩ := hSw); go_simp; try with_reducible rfl)
        try simp only [Act.put, List.setIfInBounds_toArray, List.set_cons_zero, List.set_cons_succ]
        refine wpAnyH_take (i := 5) (oi := { dst := some 50, op := Op.extract (Operand.tmp 45) 0, type := 26, pos := "law.go:88", after := #[{ on := 4, ground := Ground.data }], guard := none }) (v := ?_) rfl (by kernel_rfl) (by kernel_rfl) (by kernel_rfl) (fun _ _ _ h => h) (Or.inl ⟨by rfl, ?_⟩) (by assumption) ?_
        rotate_left 1
        · (intro W hSw; (try obtain ⟨hSw, hSw2⟩ := hSw); go_simp; try with_reducible rfl)
        try simp only [Act.put, List.setIfInBounds_toArray, List.set_cons_zero, List.set_cons_succ]
        refine wpAnyH_take (i := 6) (oi := { dst := some 51, op := Op.extract (Operand.tmp 45) 1, type := 27, pos := "law.go:88", after := #[{ on := 4, ground := Ground.data }, { on := 8, ground := Ground.gcOnly Departure.lateStores }], guard := none }) (v := ?_) rfl (by kernel_rfl) (by kernel_rfl) (by kernel_rfl) (fun _ _ _ h => h) (Or.inl ⟨by rfl, ?_⟩) (by assumption) ?_
        rotate_left 1
        · (intro W hSw; (try obtain ⟨hSw, hSw2⟩ := hSw); go_simp; try with_reducible rfl)
        try simp only [Act.put, List.setIfInBounds_toArray, List.set_cons_zero, List.set_cons_succ]
        refine wpAnyH_ready (rs := [7]) (by kernel_rfl) (by simp) ?_
        refine AllReadyH.cons (o := { dst := some 11, op := Op.alloc 26, type := 0, pos := "law.go:88", after := #[], guard := none }) rfl (fun K hK => ?_) AllReadyH.nil
        · go_simp
          have B_3 := (B_2).alloc (B_2).size (.cells #[.slice none 0 0, .int .i64 0] 26)
          have x_3 : ((wL_2).alloc (.cells #[.slice none 0 0, .int .i64 0] 26)).heap[wL_2.heap.size]? = some (.cells #[.slice none 0 0, .int .i64 0] 26 (0, 0)) := heap_alloc_new (wL_2) (.cells #[.slice none 0 0, .int .i64 0] 26)
          have l_3 : wL_2.heap.size < ((wL_2).alloc (.cells #[.slice none 0 0, .int .i64 0] 26)).heap.size := (by show _ < _; rw [size_box]; exact Nat.lt_succ_self _)
          have hge_3 : w5.heap.size ≤ wL_2.heap.size := (B_2).size
          have R_3 := Rs.below R_2 (below_box (wL_2) (.cells #[.slice none 0 0, .int .i64 0] 26))
          refine hK.out _ _ (HS.out _ B_3) (fun hHeld => ?_)
          clear hK K
          try simp only [Act.put, List.setIfInBounds_toArray, List.set_cons_zero, List.set_cons_succ]
          refine wpAnyH_ready (rs := [8]) (by kernel_rfl) (by simp) ?_
          refine AllReadyH.cons (o := { dst := none, op := Op.store 26 (Operand.tmp 11) (Operand.tmp 50), type := 0, pos := "law.go:88", after := #[{ on := 7, ground := Ground.data }, { on := 5, ground := Ground.data }, { on := 3, ground := Ground.chain }, { on := 0, ground := Ground.phase }, { on := 1, ground := Ground.phase }, { on := 2, ground := Ground.phase }, { on := 3, ground := Ground.phase }, { on := 4, ground := Ground.phase }, { on := 5, ground := Ground.phase }, { on := 6, ground := Ground.textOnly Departure.lateStores }, { on := 7, ground := Ground.phase }], guard := none }) rfl (fun K hK => ?_) AllReadyH.nil
          · have y_4 := cells_of x_3
            have f_4 := froz_of x_3
            have B_4 := (B_2).alloc (B_2).size (.cells #[.slice ad2_2 LK.1.length cap2_2, .int .i64 LK.2.1] 26)
            go_simp
            refine hK.out _ _ (HS.out _ B_4) (fun hHeld => ?_)
            clear hK K
            try simp only [Act.put, List.setIfInBounds_toArray, List.set_cons_zero, List.set_cons_succ]
            refine wpAnyH_take (i := 9) (oi := { dst := some 12, op := Op.assign (Operand.tmp 51), type := 27, pos := "law.go:88", after := #[{ on := 6, ground := Ground.data }, { on := 8, ground := Ground.chain }, { on := 0, ground := Ground.phase }, { on := 1, ground := Ground.phase }, { on := 2, ground := Ground.phase }, { on := 3, ground := Ground.phase }, { on := 4, ground := Ground.phase }, { on := 5, ground := Ground.phase }, { on := 6, ground := Ground.phase }, { on := 7, ground := Ground.phase }, { on := 8, ground := Ground.phase }], guard := none }) (v := ?_) rfl (by kernel_rfl) (by kernel_rfl) (by kernel_rfl) (fun _ _ _ h => h) (Or.inl ⟨by rfl, ?_⟩) (by assumption) ?_
            rotate_left 1
            · (intro W hSw; (try obtain ⟨hSw, hSw2⟩ := hSw); go_simp; try with_reducible rfl)
            try simp only [Act.put, List.setIfInBounds_toArray, List.set_cons_zero, List.set_cons_succ]
            refine wpAnyH_done (by kernel_rfl) ?_ _
            go_wp2_with fail
            go_meet
            exact ⟨(wL_2).heap.size, ad2_2, cap2_2, rfl, rfl, B_4, heap_alloc_new (wL_2) (.cells #[.slice ad2_2 LK.1.length cap2_2, .int .i64 LK.2.1] 26), Rs.below R_2 (below_box (wL_2) (.cells #[.slice ad2_2 LK.1.length cap2_2, .int .i64 LK.2.1] 26))⟩
      · go_simp
        have B_5 := (B_1).alloc (B_1).size (.cells #[.slice none 0 0, .int .i64 0] 26)
        have x_5 : ((wJ_1).alloc (.cells #[.slice none 0 0, .int .i64 0] 26)).heap[wJ_1.heap.size]? = some (.cells #[.slice none 0 0, .int .i64 0] 26 (0, 0)) := heap_alloc_new (wJ_1) (.cells #[.slice none 0 0, .int .i64 0] 26)
        have l_5 : wJ_1.heap.size < ((wJ_1).alloc (.cells #[.slice none 0 0, .int .i64 0] 26)).heap.size := (by show _ < _; rw [size_box]; exact Nat.lt_succ_self _)
        have hge_5 : w5.heap.size ≤ wJ_1.heap.size := (B_1).size
        refine hK.out _ _ (HS.out _ B_5) (fun hHeld => ?_)
        clear hK K
        try simp only [Act.put, List.setIfInBounds_toArray, List.set_cons_zero, List.set_cons_succ]
        refine wpAnyH_ready (rs := [3]) (by kernel_rfl) (by simp) ?_
        refine AllReadyH.cons (o := { dst := some 49, op := Op.call { callee := Callee.value (Operand.func 22), args := #[Operand.tmp 46, Operand.tmp 48], argTypes := #[26, 9] }, type := 28, pos := "law.go:88", after := #[{ on := 0, ground := Ground.data }, { on := 2, ground := Ground.data }, { on := 2, ground := Ground.chain }], guard := none }) rfl (fun K hK => ?_) AllReadyH.nil
        · go_simp
          go_at_call 22
          refine (KL.out _ (B_5)).mono ?_
          rintro e wL_6 ⟨ad2_6, cap2_6, rfl, R_6, kL_6⟩
          have B_6 := (B_5).trans (kL_6.mono (B_5).size)
          have x_6 := (kL_6.block _ l_5).trans x_5
          have l_6 := Nat.lt_of_lt_of_le l_5 kL_6.size
          go_wp2_with fail
          refine hK.out _ _ (HS.out _ B_6) (fun hHeld => ?_)
          clear hK K
          try simp only [Act.put, List.setIfInBounds_toArray, List.set_cons_zero, List.set_cons_succ]
          refine wpAnyH_take (i := 4) (oi := { dst := some 45, op := Op.move (Operand.tmp 49), type := 28, pos := "law.go:88", after := #[{ on := 3, ground := Ground.data }], guard := none }) (v := ?_) rfl (by kernel_rfl) (by kernel_rfl) (by kernel_rfl) (fun _ _ _ h => h) (Or.inl ⟨by rfl, ?_⟩) (by assumption) ?_
          rotate_left 1
          · (intro W hSw; (try obtain ⟨hSw, hSw2⟩ := hSw); go_simp; try with_reducible rfl)
          try simp only [Act.put, List.setIfInBounds_toArray, List.set_cons_zero, List.set_cons_succ]
          refine wpAnyH_take (i := 5) (oi := { dst := some 50, op := Op.extract (Operand.tmp 45) 0, type := 26, pos := "law.go:88", after := #[{ on := 4, ground := Ground.data }], guard := none }) (v := ?_) rfl (by kernel_rfl) (by kernel_rfl) (by kernel_rfl) (fun _ _ _ h => h) (Or.inl ⟨by rfl, ?_⟩) (by assumption) ?_
          rotate_left 1
          · (intro W hSw; (try obtain ⟨hSw, hSw2⟩ := hSw); go_simp; try with_reducible rfl)
          try simp only [Act.put, List.setIfInBounds_toArray, List.set_cons_zero, List.set_cons_succ]
          refine wpAnyH_take (i := 6) (oi := { dst := some 51, op := Op.extract (Operand.tmp 45) 1, type := 27, pos := "law.go:88", after := #[{ on := 4, ground := Ground.data }, { on := 8, ground := Ground.gcOnly Departure.lateStores }], guard := none }) (v := ?_) rfl (by kernel_rfl) (by kernel_rfl) (by kernel_rfl) (fun _ _ _ h => h) (Or.inl ⟨by rfl, ?_⟩) (by assumption) ?_
          rotate_left 1
          · (intro W hSw; (try obtain ⟨hSw, hSw2⟩ := hSw); go_simp; try with_reducible rfl)
          try simp only [Act.put, List.setIfInBounds_toArray, List.set_cons_zero, List.set_cons_succ]
          refine wpAnyH_ready (rs := [8]) (by kernel_rfl) (by simp) ?_
          refine AllReadyH.cons (o := { dst := none, op := Op.store 26 (Operand.tmp 11) (Operand.tmp 50), type := 0, pos := "law.go:88", after := #[{ on := 7, ground := Ground.data }, { on := 5, ground := Ground.data }, { on := 3, ground := Ground.chain }, { on := 0, ground := Ground.phase }, { on := 1, ground := Ground.phase }, { on := 2, ground := Ground.phase }, { on := 3, ground := Ground.phase }, { on := 4, ground := Ground.phase }, { on := 5, ground := Ground.phase }, { on := 6, ground := Ground.textOnly Departure.lateStores }, { on := 7, ground := Ground.phase }], guard := none }) rfl (fun K hK => ?_) AllReadyH.nil
          · have y_7 := cells_of x_6
            have f_7 := froz_of x_6
            have B_7 := (Below.setCell (Below.setCell (B_6) (p := ⟨wJ_1.heap.size, 0, none⟩) (by exact hge_5) (.slice ad2_6 LK.1.length cap2_6)) (p := ⟨wJ_1.heap.size, 1, none⟩) (by exact hge_5) (.int .i64 LK.2.1))
            go_simp
            refine hK.out _ _ (HS.out _ B_7) (fun hHeld => ?_)
            clear hK K
            try simp only [Act.put, List.setIfInBounds_toArray, List.set_cons_zero, List.set_cons_succ]
            refine wpAnyH_take (i := 9) (oi := { dst := some 12, op := Op.assign (Operand.tmp 51), type := 27, pos := "law.go:88", after := #[{ on := 6, ground := Ground.data }, { on := 8, ground := Ground.chain }, { on := 0, ground := Ground.phase }, { on := 1, ground := Ground.phase }, { on := 2, ground := Ground.phase }, { on := 3, ground := Ground.phase }, { on := 4, ground := Ground.phase }, { on := 5, ground := Ground.phase }, { on := 6, ground := Ground.phase }, { on := 7, ground := Ground.phase }, { on := 8, ground := Ground.phase }], guard := none }) (v := ?_) rfl (by kernel_rfl) (by kernel_rfl) (by kernel_rfl) (fun _ _ _ h => h) (Or.inl ⟨by rfl, ?_⟩) (by assumption) ?_
            rotate_left 1
            · (intro W hSw; (try obtain ⟨hSw, hSw2⟩ := hSw); go_simp; try with_reducible rfl)
            try simp only [Act.put, List.setIfInBounds_toArray, List.set_cons_zero, List.set_cons_succ]
            refine wpAnyH_done (by kernel_rfl) ?_ _
            go_wp2_with fail
            go_meet
            exact ⟨wJ_1.heap.size, ad2_6, cap2_6, rfl, rfl, B_7, two_set x_6 (.slice ad2_6 LK.1.length cap2_6) (.int .i64 LK.2.1), Rs.setTwo R_6 x_6 (.slice ad2_6 LK.1.length cap2_6) (.int .i64 LK.2.1)⟩
    · go_simp
      have B_8 := ((Below.refl w5.heap.size w5).drew).alloc ((Below.refl w5.heap.size w5).drew).size (.cells #[.slice none 0 0, .int .i64 0] 26)
      have x_8 : ((w5.drew).alloc (.cells #[.slice none 0 0, .int .i64 0] 26)).heap[w5.heap.size]? = some (.cells #[.slice none 0 0, .int .i64 0] 26 (0, 0)) := heap_alloc_new (w5.drew) (.cells #[.slice none 0 0, .int .i64 0] 26)
      have l_8 : w5.heap.size < ((w5.drew).alloc (.cells #[.slice none 0 0, .int .i64 0] 26)).heap.size := (by show _ < _; rw [size_box]; exact Nat.lt_succ_self _)
      have hge_8 : w5.heap.size ≤ w5.heap.size := ((Below.refl w5.heap.size w5).drew).size
      refine hK.out _ _ (HS.out _ B_8) (fun hHeld => ?_)
      clear hK K
      try simp only [Act.put, List.setIfInBounds_toArray, List.set_cons_zero, List.set_cons_succ]
      refine wpAnyH_ready (rs := [2]) (by kernel_rfl) (by simp) ?_
      refine AllReadyH.cons (o := { dst := some 48, op := Op.call { callee := Callee.value (Operand.func 13), args := #[Operand.tmp 47], argTypes := #[23] }, type := 9, pos := "law.go:88", after := #[{ on := 1, ground := Ground.data }], guard := none }) rfl (fun K hK => ?_) AllReadyH.nil
      · go_simp
        go_at_call 13
        refine (KJ.out _ (B_8)).mono ?_
        rintro e wJ_9 ⟨rfl, kJ_9⟩
        have B_9 := (B_8).trans (kJ_9.mono (B_8).size)
        have x_9 := (kJ_9.block _ l_8).trans x_8
        have l_9 := Nat.lt_of_lt_of_le l_8 kJ_9.size
        go_wp2_with fail
        refine hK.out _ _ (HS.out _ B_9) (fun hHeld => ?_)
        clear hK K
        try simp only [Act.put, List.setIfInBounds_toArray, List.set_cons_zero, List.set_cons_succ]
        refine wpAnyH_ready (rs := [3]) (by kernel_rfl) (by simp) ?_
        refine AllReadyH.cons (o := { dst := some 49, op := Op.call { callee := Callee.value (Operand.func 22), args := #[Operand.tmp 46, Operand.tmp 48], argTypes := #[26, 9] }, type := 28, pos := "law.go:88", after := #[{ on := 0, ground := Ground.data }, { on := 2, ground := Ground.data }, { on := 2, ground := Ground.chain }], guard := none }) rfl (fun K hK => ?_) AllReadyH.nil
        · go_simp
          go_at_call 22
          refine (KL.out _ (B_9)).mono ?_
          rintro e wL_10 ⟨ad2_10, cap2_10, rfl, R_10, kL_10⟩
          have B_10 := (B_9).trans (kL_10.mono (B_9).size)
          have x_10 := (kL_10.block _ l_9).trans x_9
          have l_10 := Nat.lt_of_lt_of_le l_9 kL_10.size
          go_wp2_with fail
          refine hK.out _ _ (HS.out _ B_10) (fun hHeld => ?_)
          clear hK K
          try simp only [Act.put, List.setIfInBounds_toArray, List.set_cons_zero, List.set_cons_succ]
          refine wpAnyH_take (i := 4) (oi := { dst := some 45, op := Op.move (Operand.tmp 49), type := 28, pos := "law.go:88", after := #[{ on := 3, ground := Ground.data }], guard := none }) (v := ?_) rfl (by kernel_rfl) (by kernel_rfl) (by kernel_rfl) (fun _ _ _ h => h) (Or.inl ⟨by rfl, ?_⟩) (by assumption) ?_
          rotate_left 1
          · (intro W hSw; (try obtain ⟨hSw, hSw2⟩ := hSw); go_simp; try with_reducible rfl)
          try simp only [Act.put, List.setIfInBounds_toArray, List.set_cons_zero, List.set_cons_succ]
          refine wpAnyH_take (i := 5) (oi := { dst := some 50, op := Op.extract (Operand.tmp 45) 0, type := 26, pos := "law.go:88", after := #[{ on := 4, ground := Ground.data }], guard := none }) (v := ?_) rfl (by kernel_rfl) (by kernel_rfl) (by kernel_rfl) (fun _ _ _ h => h) (Or.inl ⟨by rfl, ?_⟩) (by assumption) ?_
          rotate_left 1
          · (intro W hSw; (try obtain ⟨hSw, hSw2⟩ := hSw); go_simp; try with_reducible rfl)
          try simp only [Act.put, List.setIfInBounds_toArray, List.set_cons_zero, List.set_cons_succ]
          refine wpAnyH_take (i := 6) (oi := { dst := some 51, op := Op.extract (Operand.tmp 45) 1, type := 27, pos := "law.go:88", after := #[{ on := 4, ground := Ground.data }, { on := 8, ground := Ground.gcOnly Departure.lateStores }], guard := none }) (v := ?_) rfl (by kernel_rfl) (by kernel_rfl) (by kernel_rfl) (fun _ _ _ h => h) (Or.inl ⟨by rfl, ?_⟩) (by assumption) ?_
          rotate_left 1
          · (intro W hSw; (try obtain ⟨hSw, hSw2⟩ := hSw); go_simp; try with_reducible rfl)
          try simp only [Act.put, List.setIfInBounds_toArray, List.set_cons_zero, List.set_cons_succ]
          refine wpAnyH_ready (rs := [8]) (by kernel_rfl) (by simp) ?_
          refine AllReadyH.cons (o := { dst := none, op := Op.store 26 (Operand.tmp 11) (Operand.tmp 50), type := 0, pos := "law.go:88", after := #[{ on := 7, ground := Ground.data }, { on := 5, ground := Ground.data }, { on := 3, ground := Ground.chain }, { on := 0, ground := Ground.phase }, { on := 1, ground := Ground.phase }, { on := 2, ground := Ground.phase }, { on := 3, ground := Ground.phase }, { on := 4, ground := Ground.phase }, { on := 5, ground := Ground.phase }, { on := 6, ground := Ground.textOnly Departure.lateStores }, { on := 7, ground := Ground.phase }], guard := none }) rfl (fun K hK => ?_) AllReadyH.nil
          · have y_11 := cells_of x_10
            have f_11 := froz_of x_10
            have B_11 := (Below.setCell (Below.setCell (B_10) (p := ⟨w5.heap.size, 0, none⟩) (by exact hge_8) (.slice ad2_10 LK.1.length cap2_10)) (p := ⟨w5.heap.size, 1, none⟩) (by exact hge_8) (.int .i64 LK.2.1))
            go_simp
            refine hK.out _ _ (HS.out _ B_11) (fun hHeld => ?_)
            clear hK K
            try simp only [Act.put, List.setIfInBounds_toArray, List.set_cons_zero, List.set_cons_succ]
            refine wpAnyH_take (i := 9) (oi := { dst := some 12, op := Op.assign (Operand.tmp 51), type := 27, pos := "law.go:88", after := #[{ on := 6, ground := Ground.data }, { on := 8, ground := Ground.chain }, { on := 0, ground := Ground.phase }, { on := 1, ground := Ground.phase }, { on := 2, ground := Ground.phase }, { on := 3, ground := Ground.phase }, { on := 4, ground := Ground.phase }, { on := 5, ground := Ground.phase }, { on := 6, ground := Ground.phase }, { on := 7, ground := Ground.phase }, { on := 8, ground := Ground.phase }], guard := none }) (v := ?_) rfl (by kernel_rfl) (by kernel_rfl) (by kernel_rfl) (fun _ _ _ h => h) (Or.inl ⟨by rfl, ?_⟩) (by assumption) ?_
            rotate_left 1
            · (intro W hSw; (try obtain ⟨hSw, hSw2⟩ := hSw); go_simp; try with_reducible rfl)
            try simp only [Act.put, List.setIfInBounds_toArray, List.set_cons_zero, List.set_cons_succ]
            refine wpAnyH_done (by kernel_rfl) ?_ _
            go_wp2_with fail
            go_meet
            exact ⟨w5.heap.size, ad2_10, cap2_10, rfl, rfl, B_11, two_set x_10 (.slice ad2_10 LK.1.length cap2_10) (.int .i64 LK.2.1), Rs.setTwo R_10 x_10 (.slice ad2_10 LK.1.length cap2_10) (.int .i64 LK.2.1)⟩
  case rest =>
    obtain ⟨g11, ad2, cap2, rfl, rfl, B6, Q11, R11⟩ := hcut
    by_cases e1 : LK.2.2 = 0
    · have hle := HC1.out e1
      obtain ⟨v, hv⟩ : ∃ v, ofU LK.1 = v := ⟨_, rfl⟩
      have KOL : Hid (∀ W, Below w5.heap.size w5 W → Rs W ad2 LK.1 → Calls Tryd.prog 20 #[.agg #[.slice ad2 LK.1.length cap2, .int .i64 LK.2.1]] W fun e w' => e = .returned (.agg #[.int .i64 (v.b : Int), .int .i64 (v.n : Int), .int .i64 (v.d : Int), .int .i64 (v.l : Int)]) ∧ Below W.heap.size W w') := fun W hb h1 => by
        show Calls _ _ _ _ _
        rw [← hv]; exact of_w ad2 cap2 LK.2.1 LK.1 W (M5.out.below hb) h1 hlenL HokL.out
      rw [hv] at hle
      have m11 := cells_of Q11.out
      rw [e1]
      clear e1 HC1 KJ KL HS hv
      go_upto_region 11 with (go_at_call 20; refine (KOL.out _ B6.out R11.out).mono ?_; rintro e w12 ⟨rfl, k12⟩)
      have B12 : Hid (Below w5.heap.size w5 w12) := B6.out.trans (k12.mono B6.out.size)
      have hb13 := below_box w12 (.cells #[.int .i64 (v.b : Int), .int .i64 (v.n : Int), .int .i64 (v.d : Int), .int .i64 (v.l : Int)] 54)
      have hq13 := heap_alloc_new w12 (.cells #[.int .i64 (v.b : Int), .int .i64 (v.n : Int), .int .i64 (v.d : Int), .int .i64 (v.l : Int)] 54)
      generalize w12.alloc _ = w13 at *
      have B13 : Hid (Below w5.heap.size w5 w13) := B12.out.trans (hb13.mono B12.out.size)
      clear m11 k12 hb13 B12 Q11 R11 KOL B6
      have m10 := cells_of ((B13.out.block _ hg10).trans Q5.out)
      have m13 := cells_of hq13
      have y1 : ¬ (v.b : Int) > (u.b : Int) := by omega
      have y2 : ¬ (v.n : Int) > (u.n : Int) := by omega
      have y3 : ¬ (v.d : Int) > (u.d : Int) := by omega
      have y4 : ¬ (v.l : Int) > (u.l : Int) := by omega
      clear hle
      go_upto_region 13 with fail
      have B6 : Hid (Below w5.heap.size w5 w13) := B13.out
      clear m10 m13 y1 y2 y3 y4 hq13 B13 hlenL HokL
      have m9 := cells_of ((B6.out.block _ hg9).trans Q4.out)
      go_upto_region 14 with (go_at_call 22; refine (KC0.out _ B6.out).mono ?_; rintro e w7 ⟨ad7, cap7, rfl, k7⟩)
      have B7 : Hid (Below w5.heap.size w5 w7) := B6.out.trans (k7.mono B6.out.size)
      have hb8 := below_box w7 (.cells #[.slice ad7 0 cap7, .int .i64 nx] 26)
      have hq8 := heap_alloc_new w7 (.cells #[.slice ad7 0 cap7, .int .i64 nx] 26)
      generalize w7.alloc _ = w8 at *
      have B8 : Hid (Below w5.heap.size w5 w8) := B7.out.trans (hb8.mono B7.out.size)
      have m14 := cells_of hq8
      clear m9 k7 hb8 B7 B6 KC0
      go_upto_region 16 with (go_at_call 20; refine (KO0.out _ ad7 cap7 (M5.out.below B8.out)).mono ?_; rintro e w9 ⟨rfl, k9⟩)
      have B9 : Hid (Below w5.heap.size w5 w9) := B8.out.trans (k9.mono B8.out.size)
      have m9 := cells_of ((B9.out.block _ hg9).trans Q4.out)
      clear m14 k9 B8 hq8 KO0
      go_wp2_with fail
      clear m9
      go_loopw [94] (fun x94 wr => ∃ i : Nat, x94 = .int .i64 (i : Int) ∧ i ≤ n ∧ Hid (Below w5.heap.size w5 wr)) (fun x94 _ => n - (intOf x94).toNat)
      case atStart => exact ⟨0, rfl, Nat.zero_le _, B9⟩
      case round =>
        obtain ⟨i, rfl, hi, Bw⟩ := hrel
        by_cases hlt : i < n
        · go_upto_block 1 with fail
          go_cut [] (fun wx => Hid (Below w5.heap.size w5 wx))
          case first =>
            obtain ⟨r, hr⟩ : ∃ r, L[i]? = some r := ⟨_, List.getElem?_eq_getElem (by have := HLn.out; omega)⟩
            have hrm := List.mem_of_getElem? hr
            have Hrm : Hid (r ∈ L) := hrm
            have hrk := HSd.out.ok r hrm
            obtain ⟨b, o, rfl, hb1, hb2⟩ := R5.out.at hr
            have hRg := range_below hb2 Bw.out hb1
            have HB : Hid (wr.rangeAt b (o + i * 13) [.string (bs r.p), .int .i64 r.id, .int .i64 r.kind, .int .i64 r.mode, .int .i64 0, .int .i64 0, .int .i64 0, .string ⟨#[]⟩, .string ⟨#[]⟩, .string ⟨#[]⟩, .slice none 0 0, .int .i64 r.size, .bool r.made]) := hRg
            have hsi : Hid ((Tryd.prog.info? 40).map (·.size) = some ([.string (bs r.p), .int .i64 r.id, .int .i64 r.kind, .int .i64 r.mode, .int .i64 0, .int .i64 0, .int .i64 0, .string ⟨#[]⟩, .string ⟨#[]⟩, .string ⟨#[]⟩, .slice none 0 0, .int .i64 r.size, .bool r.made] : List Value).length) := (by show _ = _; kernel_rfl)
            have i1 : (0 : Int) ≤ (i : Int) := by omega
            have i2 : (i : Int) < (n : Int) := by omega
            clear hRg hb2 hrm hr
            go_upto_region 19 with (refine wpList_load_mid rfl 40 _ rfl b (o + i * 13) rfl [.string (bs r.p), .int .i64 r.id, .int .i64 r.kind, .int .i64 r.mode, .int .i64 0, .int .i64 0, .int .i64 0, .string ⟨#[]⟩, .string ⟨#[]⟩, .string ⟨#[]⟩, .slice none 0 0, .int .i64 r.size, .bool r.made] _ HB.out Tryd.underlying40 rfl hsi.out ?_)
            have hk6 := below_box wr (.cells #[.string (bs r.p), .int .i64 r.id, .int .i64 r.kind, .int .i64 r.mode, .int .i64 0, .int .i64 0, .int .i64 0, .string ⟨#[]⟩, .string ⟨#[]⟩, .string ⟨#[]⟩, .slice none 0 0, .int .i64 r.size, .bool r.made] 40)
            have hq6 := heap_alloc_new wr (.cells #[.string (bs r.p), .int .i64 r.id, .int .i64 r.kind, .int .i64 r.mode, .int .i64 0, .int .i64 0, .int .i64 0, .string ⟨#[]⟩, .string ⟨#[]⟩, .string ⟨#[]⟩, .slice none 0 0, .int .i64 r.size, .bool r.made] 40)
            have hs6 := size_box wr (.cells #[.string (bs r.p), .int .i64 r.id, .int .i64 r.kind, .int .i64 r.mode, .int .i64 0, .int .i64 0, .int .i64 0, .string ⟨#[]⟩, .string ⟨#[]⟩, .string ⟨#[]⟩, .slice none 0 0, .int .i64 r.size, .bool r.made] 40)
            have hwr := Bw.out.size
            generalize wr.alloc _ = w6 at *
            have B6 : Hid (Below w5.heap.size w5 w6) := Bw.out.trans (hk6.mono Bw.out.size)
            have hg12 : wr.heap.size < w6.heap.size := by omega
            generalize wr.heap.size = g12 at *
            have Q6 : Hid (w6.heap[g12]? = some (.cells #[.string (bs r.p), .int .i64 r.id, .int .i64 r.kind, .int .i64 r.mode, .int .i64 0, .int .i64 0, .int .i64 0, .string ⟨#[]⟩, .string ⟨#[]⟩, .string ⟨#[]⟩, .slice none 0 0, .int .i64 r.size, .bool r.made] 40 (0, 0))) := hq6
            have m6 := cells_of Q6.out
            clear hk6 Bw HB hsi hq6 hs6
            by_cases hkd : r.kind = 1
            · have hk1 : (r.kind != 1) = false := by simp [hkd]
              clear hkd
              obtain ⟨LK, hLK⟩ : ∃ LK, linkP L nx (jn (cln s)) r.p = LK := ⟨_, rfl⟩
              have HNL := cuts_link (s := jn (cln s)) HSd.out Hrm.out HE0.out (by omega)
              rw [hLK, Hu.out, HLn.out] at HNL
              have HNl : Hid (LK.2.2 = 0 → (ofU LK.1).b ≤ u.b ∧ n ≤ LK.1.length ∧ (ofU LK.1).n + n ≤ u.n + LK.1.length) := HNL
              have hLd := Sd.link (s := jn (cln s)) (tt := r.p) HSd.out HE0.out (by omega)
              rw [hLK] at hLd
              have hLl := link_length (L := L) (nx := nx) (s := jn (cln s)) (tt := r.p)
              rw [hLK, HLn.out] at hLl
              have KJ : Hid (∀ W, Below w6.heap.size w6 W → Calls Tryd.prog 13 #[.slice a1 (cln s).length c1] W fun e w' => e = .returned (.string (bs (jn (cln s)))) ∧ Below W.heap.size W w') := fun W hb => join_w a1 c1 (cln s) W ((S5.out.below B6.out).below hb) hc1 (by omega) (by omega)
              have KL : Hid (∀ W, Below w6.heap.size w6 W → Calls Tryd.prog 23 #[.agg #[.slice (some ⟨b, o, none⟩) n cap, .int .i64 nx], .string (bs (jn (cln s))), .string (bs r.p)] W fun e w' => ∃ ad2 cap2, e = .returned (.tuple #[.agg #[.slice ad2 LK.1.length cap2, .int .i64 LK.2.1], .int .i64 LK.2.2]) ∧ Rs w' ad2 LK.1 ∧ Below W.heap.size W w') := fun W hb => by
                have g := link_w (.agg #[.slice (some ⟨b, o, none⟩) L.length cap, .int .i64 nx]) nx L (jn (cln s)) r.p W HSd.out ⟨_, cap, rfl, (R5.out.below B6.out).below hb, (by rw [HLn.out]; exact C3'), (fun h => nomatch h)⟩ (by rw [HLn.out]; omega) (by omega) (by omega) (by omega) HE0.out
                rw [hLK, HLn.out] at g
                refine Calls.mono g ?_
                rintro e w' ⟨v', rfl, ⟨ad2, cap2, rfl, h1, h2, h3⟩, hb⟩
                exact ⟨ad2, cap2, rfl, h1, hb⟩
              have HS : Hid (∀ W, Below w6.heap.size w6 W → (fun W : World => (∀ k, W.cell? ⟨g9, k, none⟩ = (#[.slice (some ⟨b, o, none⟩) n cap, .int .i64 nx] : Array Value)[k]?) ∧ W.cell? ⟨g12, 0, none⟩ = some (.string (bs r.p))) W) := fun W hb => ⟨cells_of ((hb.block _ (Nat.lt_of_lt_of_le hg9 B6.out.size)).trans ((B6.out.block _ hg9).trans Q4.out)), cells_of ((hb.block _ hg12).trans Q6.out) 0⟩
              have HLd : Hid (Sd LK.1 LK.2.1) := hLd
              clear hLK hLd HNL
              go_upto_region 20 with fail
              clear m6
              go_cut [18, 19] (fun s18 s19 wx => ∃ g16 ad2 cap2, s18 = .pointer (some ⟨g16, 0, none⟩) ∧ s19 = .int .i64 LK.2.2 ∧ Hid (Below w6.heap.size w6 wx) ∧ Hid (wx.heap[g16]? = some (.cells #[.slice ad2 LK.1.length cap2, .int .i64 LK.2.1] 26 (0, 0))) ∧ Hid (Rs wx ad2 LK.1))
              case first =>
                have h0 := HS.out _ ((Below.refl w6.heap.size w6).drew)
                refine wp_region_held_drew (S := (fun W : World => (∀ k, W.cell? ⟨g9, k, none⟩ = (#[.slice (some ⟨b, o, none⟩) n cap, .int .i64 nx] : Array Value)[k]?) ∧ W.cell? ⟨g12, 0, none⟩ = some (.string (bs r.p)))) (by kernel_rfl) h0 (fun hHeld => ?_)
                refine wpAnyH_take (i := 0) (oi := { dst := some 103, op := Op.load 26 (Operand.tmp 9), type := 26, pos := "law.go:102", after := #[], guard := none }) (v := ?_) rfl (by kernel_rfl) (by kernel_rfl) (by kernel_rfl) (fun _ _ _ h => h) (Or.inl ⟨by rfl, ?_⟩) (by assumption) ?_
                rotate_left 1
                · (intro W hSw; (try obtain ⟨hSw, hSw2⟩ := hSw); go_simp; try with_reducible rfl)
                try simp only [Act.put, List.setIfInBounds_toArray, List.set_cons_zero, List.set_cons_succ]
                refine wpAnyH_take (i := 1) (oi := { dst := some 104, op := Op.move (Operand.tmp 7), type := 23, pos := "law.go:102", after := #[], guard := none }) (v := ?_) rfl (by kernel_rfl) (by kernel_rfl) (by kernel_rfl) (fun _ _ _ h => h) (Or.inl ⟨by rfl, ?_⟩) (by assumption) ?_
                rotate_left 1
                · (intro W hSw; (try obtain ⟨hSw, hSw2⟩ := hSw); go_simp; try with_reducible rfl)
                try simp only [Act.put, List.setIfInBounds_toArray, List.set_cons_zero, List.set_cons_succ]
                refine wpAnyH_take (i := 3) (oi := { dst := some 106, op := Op.fieldAddr 40 (Operand.tmp 17) 0, type := 0, pos := "law.go:102", after := #[], guard := none }) (v := ?_) rfl (by kernel_rfl) (by kernel_rfl) (by kernel_rfl) (fun _ _ _ h => h) (Or.inl ⟨by rfl, ?_⟩) (by assumption) ?_
                rotate_left 1
                · (intro W hSw; (try obtain ⟨hSw, hSw2⟩ := hSw); go_simp; try with_reducible rfl)
                try simp only [Act.put, List.setIfInBounds_toArray, List.set_cons_zero, List.set_cons_succ]
                refine wpAnyH_take (i := 4) (oi := { dst := some 107, op := Op.load 9 (Operand.tmp 106), type := 9, pos := "law.go:102", after := #[{ on := 3, ground := Ground.data }], guard := none }) (v := ?_) rfl (by kernel_rfl) (by kernel_rfl) (by kernel_rfl) (fun _ _ _ h => h) (Or.inl ⟨by rfl, ?_⟩) (by assumption) ?_
                rotate_left 1
                · (intro W hSw; (try obtain ⟨hSw, hSw2⟩ := hSw); go_simp; try with_reducible rfl)
                try simp only [Act.put, List.setIfInBounds_toArray, List.set_cons_zero, List.set_cons_succ]
                refine wpAnyH_ready (rs := [2, 9]) (by kernel_rfl) (by simp) ?_
                refine AllReadyH.cons (o := { dst := some 105, op := Op.call { callee := Callee.value (Operand.func 13), args := #[Operand.tmp 104], argTypes := #[23] }, type := 9, pos := "law.go:102", after := #[{ on := 1, ground := Ground.data }], guard := none }) rfl (fun K hK => ?_) (AllReadyH.cons (o := { dst := some 18, op := Op.alloc 26, type := 0, pos := "law.go:102", after := #[], guard := none }) rfl (fun K hK => ?_) AllReadyH.nil)
                · go_simp
                  go_at_call 13
                  refine (KJ.out _ ((Below.refl w6.heap.size w6).drew)).mono ?_
                  rintro e wJ_1 ⟨rfl, kJ_1⟩
                  have B_1 := ((Below.refl w6.heap.size w6).drew).trans (kJ_1.mono ((Below.refl w6.heap.size w6).drew).size)
                  go_wp2_with fail
                  refine hK.out _ _ (HS.out _ B_1) (fun hHeld => ?_)
                  clear hK K
                  try simp only [Act.put, List.setIfInBounds_toArray, List.set_cons_zero, List.set_cons_succ]
                  refine wpAnyH_ready (rs := [5, 9]) (by kernel_rfl) (by simp) ?_
                  refine AllReadyH.cons (o := { dst := some 108, op := Op.call { callee := Callee.value (Operand.func 23), args := #[Operand.tmp 103, Operand.tmp 105, Operand.tmp 107], argTypes := #[26, 9, 9] }, type := 28, pos := "law.go:102", after := #[{ on := 0, ground := Ground.data }, { on := 2, ground := Ground.data }, { on := 4, ground := Ground.data }, { on := 2, ground := Ground.chain }], guard := none }) rfl (fun K hK => ?_) (AllReadyH.cons (o := { dst := some 18, op := Op.alloc 26, type := 0, pos := "law.go:102", after := #[], guard := none }) rfl (fun K hK => ?_) AllReadyH.nil)
                  · go_simp
                    go_at_call 23
                    refine (KL.out _ (B_1)).mono ?_
                    rintro e wL_2 ⟨ad2_2, cap2_2, rfl, R_2, kL_2⟩
                    have B_2 := (B_1).trans (kL_2.mono (B_1).size)
                    go_wp2_with fail
                    refine hK.out _ _ (HS.out _ B_2) (fun hHeld => ?_)
                    clear hK K
                    try simp only [Act.put, List.setIfInBounds_toArray, List.set_cons_zero, List.set_cons_succ]
                    refine wpAnyH_take (i := 6) (oi := { dst := some 102, op := Op.move (Operand.tmp 108), type := 28, pos := "law.go:102", after := #[{ on := 5, ground := Ground.data }], guard := none }) (v := ?_) rfl (by kernel_rfl) (by kernel_rfl) (by kernel_rfl) (fun _ _ _ h => h) (Or.inl ⟨by rfl, ?_⟩) (by assumption) ?_
                    rotate_left 1
                    · (intro W hSw; (try obtain ⟨hSw, hSw2⟩ := hSw); go_simp; try with_reducible rfl)
                    try simp only [Act.put, List.setIfInBounds_toArray, List.set_cons_zero, List.set_cons_succ]
                    refine wpAnyH_take (i := 7) (oi := { dst := some 109, op := Op.extract (Operand.tmp 102) 0, type := 26, pos := "law.go:102", after := #[{ on := 6, ground := Ground.data }], guard := none }) (v := ?_) rfl (by kernel_rfl) (by kernel_rfl) (by kernel_rfl) (fun _ _ _ h => h) (Or.inl ⟨by rfl, ?_⟩) (by assumption) ?_
                    rotate_left 1
                    · (intro W hSw; (try obtain ⟨hSw, hSw2⟩ := hSw); go_simp; try with_reducible rfl)
                    try simp only [Act.put, List.setIfInBounds_toArray, List.set_cons_zero, List.set_cons_succ]
                    refine wpAnyH_take (i := 8) (oi := { dst := some 110, op := Op.extract (Operand.tmp 102) 1, type := 27, pos := "law.go:102", after := #[{ on := 6, ground := Ground.data }, { on := 10, ground := Ground.gcOnly Departure.lateStores }], guard := none }) (v := ?_) rfl (by kernel_rfl) (by kernel_rfl) (by kernel_rfl) (fun _ _ _ h => h) (Or.inl ⟨by rfl, ?_⟩) (by assumption) ?_
                    rotate_left 1
                    · (intro W hSw; (try obtain ⟨hSw, hSw2⟩ := hSw); go_simp; try with_reducible rfl)
                    try simp only [Act.put, List.setIfInBounds_toArray, List.set_cons_zero, List.set_cons_succ]
                    refine wpAnyH_ready (rs := [9]) (by kernel_rfl) (by simp) ?_
                    refine AllReadyH.cons (o := { dst := some 18, op := Op.alloc 26, type := 0, pos := "law.go:102", after := #[], guard := none }) rfl (fun K hK => ?_) AllReadyH.nil
                    · go_simp
                      have B_3 := (B_2).alloc (B_2).size (.cells #[.slice none 0 0, .int .i64 0] 26)
                      have x_3 : ((wL_2).alloc (.cells #[.slice none 0 0, .int .i64 0] 26)).heap[wL_2.heap.size]? = some (.cells #[.slice none 0 0, .int .i64 0] 26 (0, 0)) := heap_alloc_new (wL_2) (.cells #[.slice none 0 0, .int .i64 0] 26)
                      have l_3 : wL_2.heap.size < ((wL_2).alloc (.cells #[.slice none 0 0, .int .i64 0] 26)).heap.size := (by show _ < _; rw [size_box]; exact Nat.lt_succ_self _)
                      have hge_3 : w6.heap.size ≤ wL_2.heap.size := (B_2).size
                      have R_3 := Rs.below R_2 (below_box (wL_2) (.cells #[.slice none 0 0, .int .i64 0] 26))
                      refine hK.out _ _ (HS.out _ B_3) (fun hHeld => ?_)
                      clear hK K
                      try simp only [Act.put, List.setIfInBounds_toArray, List.set_cons_zero, List.set_cons_succ]
                      refine wpAnyH_ready (rs := [10]) (by kernel_rfl) (by simp) ?_
                      refine AllReadyH.cons (o := { dst := none, op := Op.store 26 (Operand.tmp 18) (Operand.tmp 109), type := 0, pos := "law.go:102", after := #[{ on := 9, ground := Ground.data }, { on := 7, ground := Ground.data }, { on := 5, ground := Ground.chain }, { on := 0, ground := Ground.phase }, { on := 1, ground := Ground.phase }, { on := 2, ground := Ground.phase }, { on := 3, ground := Ground.phase }, { on := 4, ground := Ground.phase }, { on := 5, ground := Ground.phase }, { on := 6, ground := Ground.phase }, { on := 7, ground := Ground.phase }, { on := 8, ground := Ground.textOnly Departure.lateStores }, { on := 9, ground := Ground.phase }], guard := none }) rfl (fun K hK => ?_) AllReadyH.nil
                      · have y_4 := cells_of x_3
                        have f_4 := froz_of x_3
                        have B_4 := (B_2).alloc (B_2).size (.cells #[.slice ad2_2 LK.1.length cap2_2, .int .i64 LK.2.1] 26)
                        go_simp
                        refine hK.out _ _ (HS.out _ B_4) (fun hHeld => ?_)
                        clear hK K
                        try simp only [Act.put, List.setIfInBounds_toArray, List.set_cons_zero, List.set_cons_succ]
                        refine wpAnyH_take (i := 11) (oi := { dst := some 19, op := Op.assign (Operand.tmp 110), type := 27, pos := "law.go:102", after := #[{ on := 8, ground := Ground.data }, { on := 10, ground := Ground.chain }, { on := 0, ground := Ground.phase }, { on := 1, ground := Ground.phase }, { on := 2, ground := Ground.phase }, { on := 3, ground := Ground.phase }, { on := 4, ground := Ground.phase }, { on := 5, ground := Ground.phase }, { on := 6, ground := Ground.phase }, { on := 7, ground := Ground.phase }, { on := 8, ground := Ground.phase }, { on := 9, ground := Ground.phase }, { on := 10, ground := Ground.phase }], guard := none }) (v := ?_) rfl (by kernel_rfl) (by kernel_rfl) (by kernel_rfl) (fun _ _ _ h => h) (Or.inl ⟨by rfl, ?_⟩) (by assumption) ?_
                        rotate_left 1
                        · (intro W hSw; (try obtain ⟨hSw, hSw2⟩ := hSw); go_simp; try with_reducible rfl)
                        try simp only [Act.put, List.setIfInBounds_toArray, List.set_cons_zero, List.set_cons_succ]
                        refine wpAnyH_done (by kernel_rfl) ?_ _
                        go_wp2_with fail
                        go_meet
                        exact ⟨(wL_2).heap.size, ad2_2, cap2_2, rfl, rfl, B_4, heap_alloc_new (wL_2) (.cells #[.slice ad2_2 LK.1.length cap2_2, .int .i64 LK.2.1] 26), Rs.below R_2 (below_box (wL_2) (.cells #[.slice ad2_2 LK.1.length cap2_2, .int .i64 LK.2.1] 26))⟩
                  · go_simp
                    have B_5 := (B_1).alloc (B_1).size (.cells #[.slice none 0 0, .int .i64 0] 26)
                    have x_5 : ((wJ_1).alloc (.cells #[.slice none 0 0, .int .i64 0] 26)).heap[wJ_1.heap.size]? = some (.cells #[.slice none 0 0, .int .i64 0] 26 (0, 0)) := heap_alloc_new (wJ_1) (.cells #[.slice none 0 0, .int .i64 0] 26)
                    have l_5 : wJ_1.heap.size < ((wJ_1).alloc (.cells #[.slice none 0 0, .int .i64 0] 26)).heap.size := (by show _ < _; rw [size_box]; exact Nat.lt_succ_self _)
                    have hge_5 : w6.heap.size ≤ wJ_1.heap.size := (B_1).size
                    refine hK.out _ _ (HS.out _ B_5) (fun hHeld => ?_)
                    clear hK K
                    try simp only [Act.put, List.setIfInBounds_toArray, List.set_cons_zero, List.set_cons_succ]
                    refine wpAnyH_ready (rs := [5]) (by kernel_rfl) (by simp) ?_
                    refine AllReadyH.cons (o := { dst := some 108, op := Op.call { callee := Callee.value (Operand.func 23), args := #[Operand.tmp 103, Operand.tmp 105, Operand.tmp 107], argTypes := #[26, 9, 9] }, type := 28, pos := "law.go:102", after := #[{ on := 0, ground := Ground.data }, { on := 2, ground := Ground.data }, { on := 4, ground := Ground.data }, { on := 2, ground := Ground.chain }], guard := none }) rfl (fun K hK => ?_) AllReadyH.nil
                    · go_simp
                      go_at_call 23
                      refine (KL.out _ (B_5)).mono ?_
                      rintro e wL_6 ⟨ad2_6, cap2_6, rfl, R_6, kL_6⟩
                      have B_6 := (B_5).trans (kL_6.mono (B_5).size)
                      have x_6 := (kL_6.block _ l_5).trans x_5
                      have l_6 := Nat.lt_of_lt_of_le l_5 kL_6.size
                      go_wp2_with fail
                      refine hK.out _ _ (HS.out _ B_6) (fun hHeld => ?_)
                      clear hK K
                      try simp only [Act.put, List.setIfInBounds_toArray, List.set_cons_zero, List.set_cons_succ]
                      refine wpAnyH_take (i := 6) (oi := { dst := some 102, op := Op.move (Operand.tmp 108), type := 28, pos := "law.go:102", after := #[{ on := 5, ground := Ground.data }], guard := none }) (v := ?_) rfl (by kernel_rfl) (by kernel_rfl) (by kernel_rfl) (fun _ _ _ h => h) (Or.inl ⟨by rfl, ?_⟩) (by assumption) ?_
                      rotate_left 1
                      · (intro W hSw; (try obtain ⟨hSw, hSw2⟩ := hSw); go_simp; try with_reducible rfl)
                      try simp only [Act.put, List.setIfInBounds_toArray, List.set_cons_zero, List.set_cons_succ]
                      refine wpAnyH_take (i := 7) (oi := { dst := some 109, op := Op.extract (Operand.tmp 102) 0, type := 26, pos := "law.go:102", after := #[{ on := 6, ground := Ground.data }], guard := none }) (v := ?_) rfl (by kernel_rfl) (by kernel_rfl) (by kernel_rfl) (fun _ _ _ h => h) (Or.inl ⟨by rfl, ?_⟩) (by assumption) ?_
                      rotate_left 1
                      · (intro W hSw; (try obtain ⟨hSw, hSw2⟩ := hSw); go_simp; try with_reducible rfl)
                      try simp only [Act.put, List.setIfInBounds_toArray, List.set_cons_zero, List.set_cons_succ]
                      refine wpAnyH_take (i := 8) (oi := { dst := some 110, op := Op.extract (Operand.tmp 102) 1, type := 27, pos := "law.go:102", after := #[{ on := 6, ground := Ground.data }, { on := 10, ground := Ground.gcOnly Departure.lateStores }], guard := none }) (v := ?_) rfl (by kernel_rfl) (by kernel_rfl) (by kernel_rfl) (fun _ _ _ h => h) (Or.inl ⟨by rfl, ?_⟩) (by assumption) ?_
                      rotate_left 1
                      · (intro W hSw; (try obtain ⟨hSw, hSw2⟩ := hSw); go_simp; try with_reducible rfl)
                      try simp only [Act.put, List.setIfInBounds_toArray, List.set_cons_zero, List.set_cons_succ]
                      refine wpAnyH_ready (rs := [10]) (by kernel_rfl) (by simp) ?_
                      refine AllReadyH.cons (o := { dst := none, op := Op.store 26 (Operand.tmp 18) (Operand.tmp 109), type := 0, pos := "law.go:102", after := #[{ on := 9, ground := Ground.data }, { on := 7, ground := Ground.data }, { on := 5, ground := Ground.chain }, { on := 0, ground := Ground.phase }, { on := 1, ground := Ground.phase }, { on := 2, ground := Ground.phase }, { on := 3, ground := Ground.phase }, { on := 4, ground := Ground.phase }, { on := 5, ground := Ground.phase }, { on := 6, ground := Ground.phase }, { on := 7, ground := Ground.phase }, { on := 8, ground := Ground.textOnly Departure.lateStores }, { on := 9, ground := Ground.phase }], guard := none }) rfl (fun K hK => ?_) AllReadyH.nil
                      · have y_7 := cells_of x_6
                        have f_7 := froz_of x_6
                        have B_7 := (Below.setCell (Below.setCell (B_6) (p := ⟨wJ_1.heap.size, 0, none⟩) (by exact hge_5) (.slice ad2_6 LK.1.length cap2_6)) (p := ⟨wJ_1.heap.size, 1, none⟩) (by exact hge_5) (.int .i64 LK.2.1))
                        go_simp
                        refine hK.out _ _ (HS.out _ B_7) (fun hHeld => ?_)
                        clear hK K
                        try simp only [Act.put, List.setIfInBounds_toArray, List.set_cons_zero, List.set_cons_succ]
                        refine wpAnyH_take (i := 11) (oi := { dst := some 19, op := Op.assign (Operand.tmp 110), type := 27, pos := "law.go:102", after := #[{ on := 8, ground := Ground.data }, { on := 10, ground := Ground.chain }, { on := 0, ground := Ground.phase }, { on := 1, ground := Ground.phase }, { on := 2, ground := Ground.phase }, { on := 3, ground := Ground.phase }, { on := 4, ground := Ground.phase }, { on := 5, ground := Ground.phase }, { on := 6, ground := Ground.phase }, { on := 7, ground := Ground.phase }, { on := 8, ground := Ground.phase }, { on := 9, ground := Ground.phase }, { on := 10, ground := Ground.phase }], guard := none }) (v := ?_) rfl (by kernel_rfl) (by kernel_rfl) (by kernel_rfl) (fun _ _ _ h => h) (Or.inl ⟨by rfl, ?_⟩) (by assumption) ?_
                        rotate_left 1
                        · (intro W hSw; (try obtain ⟨hSw, hSw2⟩ := hSw); go_simp; try with_reducible rfl)
                        try simp only [Act.put, List.setIfInBounds_toArray, List.set_cons_zero, List.set_cons_succ]
                        refine wpAnyH_done (by kernel_rfl) ?_ _
                        go_wp2_with fail
                        go_meet
                        exact ⟨wJ_1.heap.size, ad2_6, cap2_6, rfl, rfl, B_7, two_set x_6 (.slice ad2_6 LK.1.length cap2_6) (.int .i64 LK.2.1), Rs.setTwo R_6 x_6 (.slice ad2_6 LK.1.length cap2_6) (.int .i64 LK.2.1)⟩
                · go_simp
                  have B_8 := ((Below.refl w6.heap.size w6).drew).alloc ((Below.refl w6.heap.size w6).drew).size (.cells #[.slice none 0 0, .int .i64 0] 26)
                  have x_8 : ((w6.drew).alloc (.cells #[.slice none 0 0, .int .i64 0] 26)).heap[w6.heap.size]? = some (.cells #[.slice none 0 0, .int .i64 0] 26 (0, 0)) := heap_alloc_new (w6.drew) (.cells #[.slice none 0 0, .int .i64 0] 26)
                  have l_8 : w6.heap.size < ((w6.drew).alloc (.cells #[.slice none 0 0, .int .i64 0] 26)).heap.size := (by show _ < _; rw [size_box]; exact Nat.lt_succ_self _)
                  have hge_8 : w6.heap.size ≤ w6.heap.size := ((Below.refl w6.heap.size w6).drew).size
                  refine hK.out _ _ (HS.out _ B_8) (fun hHeld => ?_)
                  clear hK K
                  try simp only [Act.put, List.setIfInBounds_toArray, List.set_cons_zero, List.set_cons_succ]
                  refine wpAnyH_ready (rs := [2]) (by kernel_rfl) (by simp) ?_
                  refine AllReadyH.cons (o := { dst := some 105, op := Op.call { callee := Callee.value (Operand.func 13), args := #[Operand.tmp 104], argTypes := #[23] }, type := 9, pos := "law.go:102", after := #[{ on := 1, ground := Ground.data }], guard := none }) rfl (fun K hK => ?_) AllReadyH.nil
                  · go_simp
                    go_at_call 13
                    refine (KJ.out _ (B_8)).mono ?_
                    rintro e wJ_9 ⟨rfl, kJ_9⟩
                    have B_9 := (B_8).trans (kJ_9.mono (B_8).size)
                    have x_9 := (kJ_9.block _ l_8).trans x_8
                    have l_9 := Nat.lt_of_lt_of_le l_8 kJ_9.size
                    go_wp2_with fail
                    refine hK.out _ _ (HS.out _ B_9) (fun hHeld => ?_)
                    clear hK K
                    try simp only [Act.put, List.setIfInBounds_toArray, List.set_cons_zero, List.set_cons_succ]
                    refine wpAnyH_ready (rs := [5]) (by kernel_rfl) (by simp) ?_
                    refine AllReadyH.cons (o := { dst := some 108, op := Op.call { callee := Callee.value (Operand.func 23), args := #[Operand.tmp 103, Operand.tmp 105, Operand.tmp 107], argTypes := #[26, 9, 9] }, type := 28, pos := "law.go:102", after := #[{ on := 0, ground := Ground.data }, { on := 2, ground := Ground.data }, { on := 4, ground := Ground.data }, { on := 2, ground := Ground.chain }], guard := none }) rfl (fun K hK => ?_) AllReadyH.nil
                    · go_simp
                      go_at_call 23
                      refine (KL.out _ (B_9)).mono ?_
                      rintro e wL_10 ⟨ad2_10, cap2_10, rfl, R_10, kL_10⟩
                      have B_10 := (B_9).trans (kL_10.mono (B_9).size)
                      have x_10 := (kL_10.block _ l_9).trans x_9
                      have l_10 := Nat.lt_of_lt_of_le l_9 kL_10.size
                      go_wp2_with fail
                      refine hK.out _ _ (HS.out _ B_10) (fun hHeld => ?_)
                      clear hK K
                      try simp only [Act.put, List.setIfInBounds_toArray, List.set_cons_zero, List.set_cons_succ]
                      refine wpAnyH_take (i := 6) (oi := { dst := some 102, op := Op.move (Operand.tmp 108), type := 28, pos := "law.go:102", after := #[{ on := 5, ground := Ground.data }], guard := none }) (v := ?_) rfl (by kernel_rfl) (by kernel_rfl) (by kernel_rfl) (fun _ _ _ h => h) (Or.inl ⟨by rfl, ?_⟩) (by assumption) ?_
                      rotate_left 1
                      · (intro W hSw; (try obtain ⟨hSw, hSw2⟩ := hSw); go_simp; try with_reducible rfl)
                      try simp only [Act.put, List.setIfInBounds_toArray, List.set_cons_zero, List.set_cons_succ]
                      refine wpAnyH_take (i := 7) (oi := { dst := some 109, op := Op.extract (Operand.tmp 102) 0, type := 26, pos := "law.go:102", after := #[{ on := 6, ground := Ground.data }], guard := none }) (v := ?_) rfl (by kernel_rfl) (by kernel_rfl) (by kernel_rfl) (fun _ _ _ h => h) (Or.inl ⟨by rfl, ?_⟩) (by assumption) ?_
                      rotate_left 1
                      · (intro W hSw; (try obtain ⟨hSw, hSw2⟩ := hSw); go_simp; try with_reducible rfl)
                      try simp only [Act.put, List.setIfInBounds_toArray, List.set_cons_zero, List.set_cons_succ]
                      refine wpAnyH_take (i := 8) (oi := { dst := some 110, op := Op.extract (Operand.tmp 102) 1, type := 27, pos := "law.go:102", after := #[{ on := 6, ground := Ground.data }, { on := 10, ground := Ground.gcOnly Departure.lateStores }], guard := none }) (v := ?_) rfl (by kernel_rfl) (by kernel_rfl) (by kernel_rfl) (fun _ _ _ h => h) (Or.inl ⟨by rfl, ?_⟩) (by assumption) ?_
                      rotate_left 1
                      · (intro W hSw; (try obtain ⟨hSw, hSw2⟩ := hSw); go_simp; try with_reducible rfl)
                      try simp only [Act.put, List.setIfInBounds_toArray, List.set_cons_zero, List.set_cons_succ]
                      refine wpAnyH_ready (rs := [10]) (by kernel_rfl) (by simp) ?_
                      refine AllReadyH.cons (o := { dst := none, op := Op.store 26 (Operand.tmp 18) (Operand.tmp 109), type := 0, pos := "law.go:102", after := #[{ on := 9, ground := Ground.data }, { on := 7, ground := Ground.data }, { on := 5, ground := Ground.chain }, { on := 0, ground := Ground.phase }, { on := 1, ground := Ground.phase }, { on := 2, ground := Ground.phase }, { on := 3, ground := Ground.phase }, { on := 4, ground := Ground.phase }, { on := 5, ground := Ground.phase }, { on := 6, ground := Ground.phase }, { on := 7, ground := Ground.phase }, { on := 8, ground := Ground.textOnly Departure.lateStores }, { on := 9, ground := Ground.phase }], guard := none }) rfl (fun K hK => ?_) AllReadyH.nil
                      · have y_11 := cells_of x_10
                        have f_11 := froz_of x_10
                        have B_11 := (Below.setCell (Below.setCell (B_10) (p := ⟨w6.heap.size, 0, none⟩) (by exact hge_8) (.slice ad2_10 LK.1.length cap2_10)) (p := ⟨w6.heap.size, 1, none⟩) (by exact hge_8) (.int .i64 LK.2.1))
                        go_simp
                        refine hK.out _ _ (HS.out _ B_11) (fun hHeld => ?_)
                        clear hK K
                        try simp only [Act.put, List.setIfInBounds_toArray, List.set_cons_zero, List.set_cons_succ]
                        refine wpAnyH_take (i := 11) (oi := { dst := some 19, op := Op.assign (Operand.tmp 110), type := 27, pos := "law.go:102", after := #[{ on := 8, ground := Ground.data }, { on := 10, ground := Ground.chain }, { on := 0, ground := Ground.phase }, { on := 1, ground := Ground.phase }, { on := 2, ground := Ground.phase }, { on := 3, ground := Ground.phase }, { on := 4, ground := Ground.phase }, { on := 5, ground := Ground.phase }, { on := 6, ground := Ground.phase }, { on := 7, ground := Ground.phase }, { on := 8, ground := Ground.phase }, { on := 9, ground := Ground.phase }, { on := 10, ground := Ground.phase }], guard := none }) (v := ?_) rfl (by kernel_rfl) (by kernel_rfl) (by kernel_rfl) (fun _ _ _ h => h) (Or.inl ⟨by rfl, ?_⟩) (by assumption) ?_
                        rotate_left 1
                        · (intro W hSw; (try obtain ⟨hSw, hSw2⟩ := hSw); go_simp; try with_reducible rfl)
                        try simp only [Act.put, List.setIfInBounds_toArray, List.set_cons_zero, List.set_cons_succ]
                        refine wpAnyH_done (by kernel_rfl) ?_ _
                        go_wp2_with fail
                        go_meet
                        exact ⟨w6.heap.size, ad2_10, cap2_10, rfl, rfl, B_11, two_set x_10 (.slice ad2_10 LK.1.length cap2_10) (.int .i64 LK.2.1), Rs.setTwo R_10 x_10 (.slice ad2_10 LK.1.length cap2_10) (.int .i64 LK.2.1)⟩
              case rest =>
                obtain ⟨g16, ad2, cap2, rfl, rfl, B11, Q16, R16⟩ := hcut
                have B12 : Hid (Below w5.heap.size w5 wc) := B6.out.trans (B11.out.mono B6.out.size)
                have hokL : ∀ q ∈ LK.1, Okr q := HLd.out.okr (by omega)
                obtain ⟨v, hv⟩ : ∃ v, ofU LK.1 = v := ⟨_, rfl⟩
                have KOL : Hid (∀ W, Below w5.heap.size w5 W → Rs W ad2 LK.1 → Calls Tryd.prog 20 #[.agg #[.slice ad2 LK.1.length cap2, .int .i64 LK.2.1]] W fun e w' => e = .returned (.agg #[.int .i64 (v.b : Int), .int .i64 (v.n : Int), .int .i64 (v.d : Int), .int .i64 (v.l : Int)]) ∧ Below W.heap.size W w') := fun W hb h1 => by
                  show Calls _ _ _ _ _
                  rw [← hv]; exact of_w ad2 cap2 LK.2.1 LK.1 W (M5.out.below hb) h1 (by omega) hokL
                rw [hv] at HNl
                have hsv := ofU_small LK.1 hokL
                rw [hv] at hsv
                have m16 := cells_of Q16.out
                clear hokL KJ KL HS hv
                by_cases e1 : LK.2.2 = 0
                · have hle := HNl.out e1
                  have HLe : Hid (v.b ≤ u.b ∧ n ≤ LK.1.length ∧ v.n + n ≤ u.n + LK.1.length) := hle
                  have R17 : Hid (Rs wc ad2 LK.1) := R16.out
                  rw [e1]
                  clear e1 hle HNl
                  generalize LK.1.length = nL at *
                  go_upto_region 23 with (go_at_call 20; refine (KOL.out _ B12.out R17.out).mono ?_; rintro e w12 ⟨rfl, k12⟩)
                  have B12' : Hid (Below w5.heap.size w5 w12) := B12.out.trans (k12.mono B12.out.size)
                  have hb13 := below_box w12 (.cells #[.int .i64 (v.b : Int), .int .i64 (v.n : Int), .int .i64 (v.d : Int), .int .i64 (v.l : Int)] 54)
                  have hq13 := heap_alloc_new w12 (.cells #[.int .i64 (v.b : Int), .int .i64 (v.n : Int), .int .i64 (v.d : Int), .int .i64 (v.l : Int)] 54)
                  have hg16 : g16 < wc.heap.size := (Array.getElem?_eq_some_iff.1 Q16.out).1
                  generalize w12.alloc _ = w13 at *
                  have B13 : Hid (Below w5.heap.size w5 w13) := B12'.out.trans (hb13.mono B12'.out.size)
                  have Q17 : Hid (w13.heap[g16]? = _) := ((k12.trans (hb13.mono k12.size)).block _ hg16).trans Q16.out
                  clear m16 k12 hb13
                  have m9 := cells_of ((B13.out.block _ hg9).trans Q4.out)
                  have m10 := cells_of ((B13.out.block _ hg10).trans Q5.out)
                  have m16 := cells_of Q17.out
                  have m20 := cells_of hq13
                  have hl1 := HLe.out.1
                  have hl2 := HLe.out.2.1
                  have hl3 := HLe.out.2.2
                  have j1 : (v.b : Int) ≤ (u.b : Int) := by omega
                  go_upto_region 24 with fail
                  have j2 : (v.n : Int) ≤ (u.n : Int) + ((nL : Int) - (n : Int)) := by omega
                  have j3 : (0 : Int) ≤ (nL : Int) - (n : Int) := by omega
                  go_wp2_with fail
                  go_ret
                  exact ⟨rfl, B5.out.trans (B13.out.mono B5.out.size)⟩
                · have e1b : (LK.2.2 == 0) = false := by simpa using e1
                  go_wp2_with fail
                  go_meet
                  exact B12
            · have hk1 : (r.kind != 1) = true := by simp [hkd]
              clear hkd
              go_wp2_with fail
              go_meet
              case rel => exact B6
          case rest =>
            go_wp2_with fail
            go_roundw
            case rel => exact ⟨i + 1, by simp, hlt, hcut⟩
            case measure => simp [intOf]; omega
        · go_wp2_with fail
          go_ret
          exact ⟨rfl, B5.out.trans (Bw.out.mono B5.out.size)⟩
    · have e1b : (LK.2.2 == 0) = false := by simpa using e1
      clear HC1 KJ KL HS Q11 R11 hlenL HokL e1
      go_upto_region 13 with fail
      clear e1b
      have m9 := cells_of ((B6.out.block _ hg9).trans Q4.out)
      go_upto_region 14 with (go_at_call 22; refine (KC0.out _ B6.out).mono ?_; rintro e w7 ⟨ad7, cap7, rfl, k7⟩)
      have B7 : Hid (Below w5.heap.size w5 w7) := B6.out.trans (k7.mono B6.out.size)
      have hb8 := below_box w7 (.cells #[.slice ad7 0 cap7, .int .i64 nx] 26)
      have hq8 := heap_alloc_new w7 (.cells #[.slice ad7 0 cap7, .int .i64 nx] 26)
      generalize w7.alloc _ = w8 at *
      have B8 : Hid (Below w5.heap.size w5 w8) := B7.out.trans (hb8.mono B7.out.size)
      have m14 := cells_of hq8
      clear m9 k7 hb8 B7 B6 KC0
      go_upto_region 16 with (go_at_call 20; refine (KO0.out _ ad7 cap7 (M5.out.below B8.out)).mono ?_; rintro e w9 ⟨rfl, k9⟩)
      have B9 : Hid (Below w5.heap.size w5 w9) := B8.out.trans (k9.mono B8.out.size)
      have m9 := cells_of ((B9.out.block _ hg9).trans Q4.out)
      clear m14 k9 B8 hq8 KO0
      go_wp2_with fail
      clear m9
      go_loopw [94] (fun x94 wr => ∃ i : Nat, x94 = .int .i64 (i : Int) ∧ i ≤ n ∧ Hid (Below w5.heap.size w5 wr)) (fun x94 _ => n - (intOf x94).toNat)
      case atStart => exact ⟨0, rfl, Nat.zero_le _, B9⟩
      case round =>
        obtain ⟨i, rfl, hi, Bw⟩ := hrel
        by_cases hlt : i < n
        · go_upto_block 1 with fail
          go_cut [] (fun wx => Hid (Below w5.heap.size w5 wx))
          case first =>
            obtain ⟨r, hr⟩ : ∃ r, L[i]? = some r := ⟨_, List.getElem?_eq_getElem (by have := HLn.out; omega)⟩
            have hrm := List.mem_of_getElem? hr
            have Hrm : Hid (r ∈ L) := hrm
            have hrk := HSd.out.ok r hrm
            obtain ⟨b, o, rfl, hb1, hb2⟩ := R5.out.at hr
            have hRg := range_below hb2 Bw.out hb1
            have HB : Hid (wr.rangeAt b (o + i * 13) [.string (bs r.p), .int .i64 r.id, .int .i64 r.kind, .int .i64 r.mode, .int .i64 0, .int .i64 0, .int .i64 0, .string ⟨#[]⟩, .string ⟨#[]⟩, .string ⟨#[]⟩, .slice none 0 0, .int .i64 r.size, .bool r.made]) := hRg
            have hsi : Hid ((Tryd.prog.info? 40).map (·.size) = some ([.string (bs r.p), .int .i64 r.id, .int .i64 r.kind, .int .i64 r.mode, .int .i64 0, .int .i64 0, .int .i64 0, .string ⟨#[]⟩, .string ⟨#[]⟩, .string ⟨#[]⟩, .slice none 0 0, .int .i64 r.size, .bool r.made] : List Value).length) := (by show _ = _; kernel_rfl)
            have i1 : (0 : Int) ≤ (i : Int) := by omega
            have i2 : (i : Int) < (n : Int) := by omega
            clear hRg hb2 hrm hr
            go_upto_region 19 with (refine wpList_load_mid rfl 40 _ rfl b (o + i * 13) rfl [.string (bs r.p), .int .i64 r.id, .int .i64 r.kind, .int .i64 r.mode, .int .i64 0, .int .i64 0, .int .i64 0, .string ⟨#[]⟩, .string ⟨#[]⟩, .string ⟨#[]⟩, .slice none 0 0, .int .i64 r.size, .bool r.made] _ HB.out Tryd.underlying40 rfl hsi.out ?_)
            have hk6 := below_box wr (.cells #[.string (bs r.p), .int .i64 r.id, .int .i64 r.kind, .int .i64 r.mode, .int .i64 0, .int .i64 0, .int .i64 0, .string ⟨#[]⟩, .string ⟨#[]⟩, .string ⟨#[]⟩, .slice none 0 0, .int .i64 r.size, .bool r.made] 40)
            have hq6 := heap_alloc_new wr (.cells #[.string (bs r.p), .int .i64 r.id, .int .i64 r.kind, .int .i64 r.mode, .int .i64 0, .int .i64 0, .int .i64 0, .string ⟨#[]⟩, .string ⟨#[]⟩, .string ⟨#[]⟩, .slice none 0 0, .int .i64 r.size, .bool r.made] 40)
            have hs6 := size_box wr (.cells #[.string (bs r.p), .int .i64 r.id, .int .i64 r.kind, .int .i64 r.mode, .int .i64 0, .int .i64 0, .int .i64 0, .string ⟨#[]⟩, .string ⟨#[]⟩, .string ⟨#[]⟩, .slice none 0 0, .int .i64 r.size, .bool r.made] 40)
            have hwr := Bw.out.size
            generalize wr.alloc _ = w6 at *
            have B6 : Hid (Below w5.heap.size w5 w6) := Bw.out.trans (hk6.mono Bw.out.size)
            have hg12 : wr.heap.size < w6.heap.size := by omega
            generalize wr.heap.size = g12 at *
            have Q6 : Hid (w6.heap[g12]? = some (.cells #[.string (bs r.p), .int .i64 r.id, .int .i64 r.kind, .int .i64 r.mode, .int .i64 0, .int .i64 0, .int .i64 0, .string ⟨#[]⟩, .string ⟨#[]⟩, .string ⟨#[]⟩, .slice none 0 0, .int .i64 r.size, .bool r.made] 40 (0, 0))) := hq6
            have m6 := cells_of Q6.out
            clear hk6 Bw HB hsi hq6 hs6
            by_cases hkd : r.kind = 1
            · have hk1 : (r.kind != 1) = false := by simp [hkd]
              clear hkd
              obtain ⟨LK, hLK⟩ : ∃ LK, linkP L nx (jn (cln s)) r.p = LK := ⟨_, rfl⟩
              have HNL := cuts_link (s := jn (cln s)) HSd.out Hrm.out HE0.out (by omega)
              rw [hLK, Hu.out, HLn.out] at HNL
              have HNl : Hid (LK.2.2 = 0 → (ofU LK.1).b ≤ u.b ∧ n ≤ LK.1.length ∧ (ofU LK.1).n + n ≤ u.n + LK.1.length) := HNL
              have hLd := Sd.link (s := jn (cln s)) (tt := r.p) HSd.out HE0.out (by omega)
              rw [hLK] at hLd
              have hLl := link_length (L := L) (nx := nx) (s := jn (cln s)) (tt := r.p)
              rw [hLK, HLn.out] at hLl
              have KJ : Hid (∀ W, Below w6.heap.size w6 W → Calls Tryd.prog 13 #[.slice a1 (cln s).length c1] W fun e w' => e = .returned (.string (bs (jn (cln s)))) ∧ Below W.heap.size W w') := fun W hb => join_w a1 c1 (cln s) W ((S5.out.below B6.out).below hb) hc1 (by omega) (by omega)
              have KL : Hid (∀ W, Below w6.heap.size w6 W → Calls Tryd.prog 23 #[.agg #[.slice (some ⟨b, o, none⟩) n cap, .int .i64 nx], .string (bs (jn (cln s))), .string (bs r.p)] W fun e w' => ∃ ad2 cap2, e = .returned (.tuple #[.agg #[.slice ad2 LK.1.length cap2, .int .i64 LK.2.1], .int .i64 LK.2.2]) ∧ Rs w' ad2 LK.1 ∧ Below W.heap.size W w') := fun W hb => by
                have g := link_w (.agg #[.slice (some ⟨b, o, none⟩) L.length cap, .int .i64 nx]) nx L (jn (cln s)) r.p W HSd.out ⟨_, cap, rfl, (R5.out.below B6.out).below hb, (by rw [HLn.out]; exact C3'), (fun h => nomatch h)⟩ (by rw [HLn.out]; omega) (by omega) (by omega) (by omega) HE0.out
                rw [hLK, HLn.out] at g
                refine Calls.mono g ?_
                rintro e w' ⟨v', rfl, ⟨ad2, cap2, rfl, h1, h2, h3⟩, hb⟩
                exact ⟨ad2, cap2, rfl, h1, hb⟩
              have HS : Hid (∀ W, Below w6.heap.size w6 W → (fun W : World => (∀ k, W.cell? ⟨g9, k, none⟩ = (#[.slice (some ⟨b, o, none⟩) n cap, .int .i64 nx] : Array Value)[k]?) ∧ W.cell? ⟨g12, 0, none⟩ = some (.string (bs r.p))) W) := fun W hb => ⟨cells_of ((hb.block _ (Nat.lt_of_lt_of_le hg9 B6.out.size)).trans ((B6.out.block _ hg9).trans Q4.out)), cells_of ((hb.block _ hg12).trans Q6.out) 0⟩
              have HLd : Hid (Sd LK.1 LK.2.1) := hLd
              clear hLK hLd HNL
              go_upto_region 20 with fail
              clear m6
              go_cut [18, 19] (fun s18 s19 wx => ∃ g16 ad2 cap2, s18 = .pointer (some ⟨g16, 0, none⟩) ∧ s19 = .int .i64 LK.2.2 ∧ Hid (Below w6.heap.size w6 wx) ∧ Hid (wx.heap[g16]? = some (.cells #[.slice ad2 LK.1.length cap2, .int .i64 LK.2.1] 26 (0, 0))) ∧ Hid (Rs wx ad2 LK.1))
              case first =>
                have h0 := HS.out _ ((Below.refl w6.heap.size w6).drew)
                refine wp_region_held_drew (S := (fun W : World => (∀ k, W.cell? ⟨g9, k, none⟩ = (#[.slice (some ⟨b, o, none⟩) n cap, .int .i64 nx] : Array Value)[k]?) ∧ W.cell? ⟨g12, 0, none⟩ = some (.string (bs r.p)))) (by kernel_rfl) h0 (fun hHeld => ?_)
                refine wpAnyH_take (i := 0) (oi := { dst := some 103, op := Op.load 26 (Operand.tmp 9), type := 26, pos := "law.go:102", after := #[], guard := none }) (v := ?_) rfl (by kernel_rfl) (by kernel_rfl) (by kernel_rfl) (fun _ _ _ h => h) (Or.inl ⟨by rfl, ?_⟩) (by assumption) ?_
                rotate_left 1
                · (intro W hSw; (try obtain ⟨hSw, hSw2⟩ := hSw); go_simp; try with_reducible rfl)
                try simp only [Act.put, List.setIfInBounds_toArray, List.set_cons_zero, List.set_cons_succ]
                refine wpAnyH_take (i := 1) (oi := { dst := some 104, op := Op.move (Operand.tmp 7), type := 23, pos := "law.go:102", after := #[], guard := none }) (v := ?_) rfl (by kernel_rfl) (by kernel_rfl) (by kernel_rfl) (fun _ _ _ h => h) (Or.inl ⟨by rfl, ?_⟩) (by assumption) ?_
                rotate_left 1
                · (intro W hSw; (try obtain ⟨hSw, hSw2⟩ := hSw); go_simp; try with_reducible rfl)
                try simp only [Act.put, List.setIfInBounds_toArray, List.set_cons_zero, List.set_cons_succ]
                refine wpAnyH_take (i := 3) (oi := { dst := some 106, op := Op.fieldAddr 40 (Operand.tmp 17) 0, type := 0, pos := "law.go:102", after := #[], guard := none }) (v := ?_) rfl (by kernel_rfl) (by kernel_rfl) (by kernel_rfl) (fun _ _ _ h => h) (Or.inl ⟨by rfl, ?_⟩) (by assumption) ?_
                rotate_left 1
                · (intro W hSw; (try obtain ⟨hSw, hSw2⟩ := hSw); go_simp; try with_reducible rfl)
                try simp only [Act.put, List.setIfInBounds_toArray, List.set_cons_zero, List.set_cons_succ]
                refine wpAnyH_take (i := 4) (oi := { dst := some 107, op := Op.load 9 (Operand.tmp 106), type := 9, pos := "law.go:102", after := #[{ on := 3, ground := Ground.data }], guard := none }) (v := ?_) rfl (by kernel_rfl) (by kernel_rfl) (by kernel_rfl) (fun _ _ _ h => h) (Or.inl ⟨by rfl, ?_⟩) (by assumption) ?_
                rotate_left 1
                · (intro W hSw; (try obtain ⟨hSw, hSw2⟩ := hSw); go_simp; try with_reducible rfl)
                try simp only [Act.put, List.setIfInBounds_toArray, List.set_cons_zero, List.set_cons_succ]
                refine wpAnyH_ready (rs := [2, 9]) (by kernel_rfl) (by simp) ?_
                refine AllReadyH.cons (o := { dst := some 105, op := Op.call { callee := Callee.value (Operand.func 13), args := #[Operand.tmp 104], argTypes := #[23] }, type := 9, pos := "law.go:102", after := #[{ on := 1, ground := Ground.data }], guard := none }) rfl (fun K hK => ?_) (AllReadyH.cons (o := { dst := some 18, op := Op.alloc 26, type := 0, pos := "law.go:102", after := #[], guard := none }) rfl (fun K hK => ?_) AllReadyH.nil)
                · go_simp
                  go_at_call 13
                  refine (KJ.out _ ((Below.refl w6.heap.size w6).drew)).mono ?_
                  rintro e wJ_1 ⟨rfl, kJ_1⟩
                  have B_1 := ((Below.refl w6.heap.size w6).drew).trans (kJ_1.mono ((Below.refl w6.heap.size w6).drew).size)
                  go_wp2_with fail
                  refine hK.out _ _ (HS.out _ B_1) (fun hHeld => ?_)
                  clear hK K
                  try simp only [Act.put, List.setIfInBounds_toArray, List.set_cons_zero, List.set_cons_succ]
                  refine wpAnyH_ready (rs := [5, 9]) (by kernel_rfl) (by simp) ?_
                  refine AllReadyH.cons (o := { dst := some 108, op := Op.call { callee := Callee.value (Operand.func 23), args := #[Operand.tmp 103, Operand.tmp 105, Operand.tmp 107], argTypes := #[26, 9, 9] }, type := 28, pos := "law.go:102", after := #[{ on := 0, ground := Ground.data }, { on := 2, ground := Ground.data }, { on := 4, ground := Ground.data }, { on := 2, ground := Ground.chain }], guard := none }) rfl (fun K hK => ?_) (AllReadyH.cons (o := { dst := some 18, op := Op.alloc 26, type := 0, pos := "law.go:102", after := #[], guard := none }) rfl (fun K hK => ?_) AllReadyH.nil)
                  · go_simp
                    go_at_call 23
                    refine (KL.out _ (B_1)).mono ?_
                    rintro e wL_2 ⟨ad2_2, cap2_2, rfl, R_2, kL_2⟩
                    have B_2 := (B_1).trans (kL_2.mono (B_1).size)
                    go_wp2_with fail
                    refine hK.out _ _ (HS.out _ B_2) (fun hHeld => ?_)
                    clear hK K
                    try simp only [Act.put, List.setIfInBounds_toArray, List.set_cons_zero, List.set_cons_succ]
                    refine wpAnyH_take (i := 6) (oi := { dst := some 102, op := Op.move (Operand.tmp 108), type := 28, pos := "law.go:102", after := #[{ on := 5, ground := Ground.data }], guard := none }) (v := ?_) rfl (by kernel_rfl) (by kernel_rfl) (by kernel_rfl) (fun _ _ _ h => h) (Or.inl ⟨by rfl, ?_⟩) (by assumption) ?_
                    rotate_left 1
                    · (intro W hSw; (try obtain ⟨hSw, hSw2⟩ := hSw); go_simp; try with_reducible rfl)
                    try simp only [Act.put, List.setIfInBounds_toArray, List.set_cons_zero, List.set_cons_succ]
                    refine wpAnyH_take (i := 7) (oi := { dst := some 109, op := Op.extract (Operand.tmp 102) 0, type := 26, pos := "law.go:102", after := #[{ on := 6, ground := Ground.data }], guard := none }) (v := ?_) rfl (by kernel_rfl) (by kernel_rfl) (by kernel_rfl) (fun _ _ _ h => h) (Or.inl ⟨by rfl, ?_⟩) (by assumption) ?_
                    rotate_left 1
                    · (intro W hSw; (try obtain ⟨hSw, hSw2⟩ := hSw); go_simp; try with_reducible rfl)
                    try simp only [Act.put, List.setIfInBounds_toArray, List.set_cons_zero, List.set_cons_succ]
                    refine wpAnyH_take (i := 8) (oi := { dst := some 110, op := Op.extract (Operand.tmp 102) 1, type := 27, pos := "law.go:102", after := #[{ on := 6, ground := Ground.data }, { on := 10, ground := Ground.gcOnly Departure.lateStores }], guard := none }) (v := ?_) rfl (by kernel_rfl) (by kernel_rfl) (by kernel_rfl) (fun _ _ _ h => h) (Or.inl ⟨by rfl, ?_⟩) (by assumption) ?_
                    rotate_left 1
                    · (intro W hSw; (try obtain ⟨hSw, hSw2⟩ := hSw); go_simp; try with_reducible rfl)
                    try simp only [Act.put, List.setIfInBounds_toArray, List.set_cons_zero, List.set_cons_succ]
                    refine wpAnyH_ready (rs := [9]) (by kernel_rfl) (by simp) ?_
                    refine AllReadyH.cons (o := { dst := some 18, op := Op.alloc 26, type := 0, pos := "law.go:102", after := #[], guard := none }) rfl (fun K hK => ?_) AllReadyH.nil
                    · go_simp
                      have B_3 := (B_2).alloc (B_2).size (.cells #[.slice none 0 0, .int .i64 0] 26)
                      have x_3 : ((wL_2).alloc (.cells #[.slice none 0 0, .int .i64 0] 26)).heap[wL_2.heap.size]? = some (.cells #[.slice none 0 0, .int .i64 0] 26 (0, 0)) := heap_alloc_new (wL_2) (.cells #[.slice none 0 0, .int .i64 0] 26)
                      have l_3 : wL_2.heap.size < ((wL_2).alloc (.cells #[.slice none 0 0, .int .i64 0] 26)).heap.size := (by show _ < _; rw [size_box]; exact Nat.lt_succ_self _)
                      have hge_3 : w6.heap.size ≤ wL_2.heap.size := (B_2).size
                      have R_3 := Rs.below R_2 (below_box (wL_2) (.cells #[.slice none 0 0, .int .i64 0] 26))
                      refine hK.out _ _ (HS.out _ B_3) (fun hHeld => ?_)
                      clear hK K
                      try simp only [Act.put, List.setIfInBounds_toArray, List.set_cons_zero, List.set_cons_succ]
                      refine wpAnyH_ready (rs := [10]) (by kernel_rfl) (by simp) ?_
                      refine AllReadyH.cons (o := { dst := none, op := Op.store 26 (Operand.tmp 18) (Operand.tmp 109), type := 0, pos := "law.go:102", after := #[{ on := 9, ground := Ground.data }, { on := 7, ground := Ground.data }, { on := 5, ground := Ground.chain }, { on := 0, ground := Ground.phase }, { on := 1, ground := Ground.phase }, { on := 2, ground := Ground.phase }, { on := 3, ground := Ground.phase }, { on := 4, ground := Ground.phase }, { on := 5, ground := Ground.phase }, { on := 6, ground := Ground.phase }, { on := 7, ground := Ground.phase }, { on := 8, ground := Ground.textOnly Departure.lateStores }, { on := 9, ground := Ground.phase }], guard := none }) rfl (fun K hK => ?_) AllReadyH.nil
                      · have y_4 := cells_of x_3
                        have f_4 := froz_of x_3
                        have B_4 := (B_2).alloc (B_2).size (.cells #[.slice ad2_2 LK.1.length cap2_2, .int .i64 LK.2.1] 26)
                        go_simp
                        refine hK.out _ _ (HS.out _ B_4) (fun hHeld => ?_)
                        clear hK K
                        try simp only [Act.put, List.setIfInBounds_toArray, List.set_cons_zero, List.set_cons_succ]
                        refine wpAnyH_take (i := 11) (oi := { dst := some 19, op := Op.assign (Operand.tmp 110), type := 27, pos := "law.go:102", after := #[{ on := 8, ground := Ground.data }, { on := 10, ground := Ground.chain }, { on := 0, ground := Ground.phase }, { on := 1, ground := Ground.phase }, { on := 2, ground := Ground.phase }, { on := 3, ground := Ground.phase }, { on := 4, ground := Ground.phase }, { on := 5, ground := Ground.phase }, { on := 6, ground := Ground.phase }, { on := 7, ground := Ground.phase }, { on := 8, ground := Ground.phase }, { on := 9, ground := Ground.phase }, { on := 10, ground := Ground.phase }], guard := none }) (v := ?_) rfl (by kernel_rfl) (by kernel_rfl) (by kernel_rfl) (fun _ _ _ h => h) (Or.inl ⟨by rfl, ?_⟩) (by assumption) ?_
                        rotate_left 1
                        · (intro W hSw; (try obtain ⟨hSw, hSw2⟩ := hSw); go_simp; try with_reducible rfl)
                        try simp only [Act.put, List.setIfInBounds_toArray, List.set_cons_zero, List.set_cons_succ]
                        refine wpAnyH_done (by kernel_rfl) ?_ _
                        go_wp2_with fail
                        go_meet
                        exact ⟨(wL_2).heap.size, ad2_2, cap2_2, rfl, rfl, B_4, heap_alloc_new (wL_2) (.cells #[.slice ad2_2 LK.1.length cap2_2, .int .i64 LK.2.1] 26), Rs.below R_2 (below_box (wL_2) (.cells #[.slice ad2_2 LK.1.length cap2_2, .int .i64 LK.2.1] 26))⟩
                  · go_simp
                    have B_5 := (B_1).alloc (B_1).size (.cells #[.slice none 0 0, .int .i64 0] 26)
                    have x_5 : ((wJ_1).alloc (.cells #[.slice none 0 0, .int .i64 0] 26)).heap[wJ_1.heap.size]? = some (.cells #[.slice none 0 0, .int .i64 0] 26 (0, 0)) := heap_alloc_new (wJ_1) (.cells #[.slice none 0 0, .int .i64 0] 26)
                    have l_5 : wJ_1.heap.size < ((wJ_1).alloc (.cells #[.slice none 0 0, .int .i64 0] 26)).heap.size := (by show _ < _; rw [size_box]; exact Nat.lt_succ_self _)
                    have hge_5 : w6.heap.size ≤ wJ_1.heap.size := (B_1).size
                    refine hK.out _ _ (HS.out _ B_5) (fun hHeld => ?_)
                    clear hK K
                    try simp only [Act.put, List.setIfInBounds_toArray, List.set_cons_zero, List.set_cons_succ]
                    refine wpAnyH_ready (rs := [5]) (by kernel_rfl) (by simp) ?_
                    refine AllReadyH.cons (o := { dst := some 108, op := Op.call { callee := Callee.value (Operand.func 23), args := #[Operand.tmp 103, Operand.tmp 105, Operand.tmp 107], argTypes := #[26, 9, 9] }, type := 28, pos := "law.go:102", after := #[{ on := 0, ground := Ground.data }, { on := 2, ground := Ground.data }, { on := 4, ground := Ground.data }, { on := 2, ground := Ground.chain }], guard := none }) rfl (fun K hK => ?_) AllReadyH.nil
                    · go_simp
                      go_at_call 23
                      refine (KL.out _ (B_5)).mono ?_
                      rintro e wL_6 ⟨ad2_6, cap2_6, rfl, R_6, kL_6⟩
                      have B_6 := (B_5).trans (kL_6.mono (B_5).size)
                      have x_6 := (kL_6.block _ l_5).trans x_5
                      have l_6 := Nat.lt_of_lt_of_le l_5 kL_6.size
                      go_wp2_with fail
                      refine hK.out _ _ (HS.out _ B_6) (fun hHeld => ?_)
                      clear hK K
                      try simp only [Act.put, List.setIfInBounds_toArray, List.set_cons_zero, List.set_cons_succ]
                      refine wpAnyH_take (i := 6) (oi := { dst := some 102, op := Op.move (Operand.tmp 108), type := 28, pos := "law.go:102", after := #[{ on := 5, ground := Ground.data }], guard := none }) (v := ?_) rfl (by kernel_rfl) (by kernel_rfl) (by kernel_rfl) (fun _ _ _ h => h) (Or.inl ⟨by rfl, ?_⟩) (by assumption) ?_
                      rotate_left 1
                      · (intro W hSw; (try obtain ⟨hSw, hSw2⟩ := hSw); go_simp; try with_reducible rfl)
                      try simp only [Act.put, List.setIfInBounds_toArray, List.set_cons_zero, List.set_cons_succ]
                      refine wpAnyH_take (i := 7) (oi := { dst := some 109, op := Op.extract (Operand.tmp 102) 0, type := 26, pos := "law.go:102", after := #[{ on := 6, ground := Ground.data }], guard := none }) (v := ?_) rfl (by kernel_rfl) (by kernel_rfl) (by kernel_rfl) (fun _ _ _ h => h) (Or.inl ⟨by rfl, ?_⟩) (by assumption) ?_
                      rotate_left 1
                      · (intro W hSw; (try obtain ⟨hSw, hSw2⟩ := hSw); go_simp; try with_reducible rfl)
                      try simp only [Act.put, List.setIfInBounds_toArray, List.set_cons_zero, List.set_cons_succ]
                      refine wpAnyH_take (i := 8) (oi := { dst := some 110, op := Op.extract (Operand.tmp 102) 1, type := 27, pos := "law.go:102", after := #[{ on := 6, ground := Ground.data }, { on := 10, ground := Ground.gcOnly Departure.lateStores }], guard := none }) (v := ?_) rfl (by kernel_rfl) (by kernel_rfl) (by kernel_rfl) (fun _ _ _ h => h) (Or.inl ⟨by rfl, ?_⟩) (by assumption) ?_
                      rotate_left 1
                      · (intro W hSw; (try obtain ⟨hSw, hSw2⟩ := hSw); go_simp; try with_reducible rfl)
                      try simp only [Act.put, List.setIfInBounds_toArray, List.set_cons_zero, List.set_cons_succ]
                      refine wpAnyH_ready (rs := [10]) (by kernel_rfl) (by simp) ?_
                      refine AllReadyH.cons (o := { dst := none, op := Op.store 26 (Operand.tmp 18) (Operand.tmp 109), type := 0, pos := "law.go:102", after := #[{ on := 9, ground := Ground.data }, { on := 7, ground := Ground.data }, { on := 5, ground := Ground.chain }, { on := 0, ground := Ground.phase }, { on := 1, ground := Ground.phase }, { on := 2, ground := Ground.phase }, { on := 3, ground := Ground.phase }, { on := 4, ground := Ground.phase }, { on := 5, ground := Ground.phase }, { on := 6, ground := Ground.phase }, { on := 7, ground := Ground.phase }, { on := 8, ground := Ground.textOnly Departure.lateStores }, { on := 9, ground := Ground.phase }], guard := none }) rfl (fun K hK => ?_) AllReadyH.nil
                      · have y_7 := cells_of x_6
                        have f_7 := froz_of x_6
                        have B_7 := (Below.setCell (Below.setCell (B_6) (p := ⟨wJ_1.heap.size, 0, none⟩) (by exact hge_5) (.slice ad2_6 LK.1.length cap2_6)) (p := ⟨wJ_1.heap.size, 1, none⟩) (by exact hge_5) (.int .i64 LK.2.1))
                        go_simp
                        refine hK.out _ _ (HS.out _ B_7) (fun hHeld => ?_)
                        clear hK K
                        try simp only [Act.put, List.setIfInBounds_toArray, List.set_cons_zero, List.set_cons_succ]
                        refine wpAnyH_take (i := 11) (oi := { dst := some 19, op := Op.assign (Operand.tmp 110), type := 27, pos := "law.go:102", after := #[{ on := 8, ground := Ground.data }, { on := 10, ground := Ground.chain }, { on := 0, ground := Ground.phase }, { on := 1, ground := Ground.phase }, { on := 2, ground := Ground.phase }, { on := 3, ground := Ground.phase }, { on := 4, ground := Ground.phase }, { on := 5, ground := Ground.phase }, { on := 6, ground := Ground.phase }, { on := 7, ground := Ground.phase }, { on := 8, ground := Ground.phase }, { on := 9, ground := Ground.phase }, { on := 10, ground := Ground.phase }], guard := none }) (v := ?_) rfl (by kernel_rfl) (by kernel_rfl) (by kernel_rfl) (fun _ _ _ h => h) (Or.inl ⟨by rfl, ?_⟩) (by assumption) ?_
                        rotate_left 1
                        · (intro W hSw; (try obtain ⟨hSw, hSw2⟩ := hSw); go_simp; try with_reducible rfl)
                        try simp only [Act.put, List.setIfInBounds_toArray, List.set_cons_zero, List.set_cons_succ]
                        refine wpAnyH_done (by kernel_rfl) ?_ _
                        go_wp2_with fail
                        go_meet
                        exact ⟨wJ_1.heap.size, ad2_6, cap2_6, rfl, rfl, B_7, two_set x_6 (.slice ad2_6 LK.1.length cap2_6) (.int .i64 LK.2.1), Rs.setTwo R_6 x_6 (.slice ad2_6 LK.1.length cap2_6) (.int .i64 LK.2.1)⟩
                · go_simp
                  have B_8 := ((Below.refl w6.heap.size w6).drew).alloc ((Below.refl w6.heap.size w6).drew).size (.cells #[.slice none 0 0, .int .i64 0] 26)
                  have x_8 : ((w6.drew).alloc (.cells #[.slice none 0 0, .int .i64 0] 26)).heap[w6.heap.size]? = some (.cells #[.slice none 0 0, .int .i64 0] 26 (0, 0)) := heap_alloc_new (w6.drew) (.cells #[.slice none 0 0, .int .i64 0] 26)
                  have l_8 : w6.heap.size < ((w6.drew).alloc (.cells #[.slice none 0 0, .int .i64 0] 26)).heap.size := (by show _ < _; rw [size_box]; exact Nat.lt_succ_self _)
                  have hge_8 : w6.heap.size ≤ w6.heap.size := ((Below.refl w6.heap.size w6).drew).size
                  refine hK.out _ _ (HS.out _ B_8) (fun hHeld => ?_)
                  clear hK K
                  try simp only [Act.put, List.setIfInBounds_toArray, List.set_cons_zero, List.set_cons_succ]
                  refine wpAnyH_ready (rs := [2]) (by kernel_rfl) (by simp) ?_
                  refine AllReadyH.cons (o := { dst := some 105, op := Op.call { callee := Callee.value (Operand.func 13), args := #[Operand.tmp 104], argTypes := #[23] }, type := 9, pos := "law.go:102", after := #[{ on := 1, ground := Ground.data }], guard := none }) rfl (fun K hK => ?_) AllReadyH.nil
                  · go_simp
                    go_at_call 13
                    refine (KJ.out _ (B_8)).mono ?_
                    rintro e wJ_9 ⟨rfl, kJ_9⟩
                    have B_9 := (B_8).trans (kJ_9.mono (B_8).size)
                    have x_9 := (kJ_9.block _ l_8).trans x_8
                    have l_9 := Nat.lt_of_lt_of_le l_8 kJ_9.size
                    go_wp2_with fail
                    refine hK.out _ _ (HS.out _ B_9) (fun hHeld => ?_)
                    clear hK K
                    try simp only [Act.put, List.setIfInBounds_toArray, List.set_cons_zero, List.set_cons_succ]
                    refine wpAnyH_ready (rs := [5]) (by kernel_rfl) (by simp) ?_
                    refine AllReadyH.cons (o := { dst := some 108, op := Op.call { callee := Callee.value (Operand.func 23), args := #[Operand.tmp 103, Operand.tmp 105, Operand.tmp 107], argTypes := #[26, 9, 9] }, type := 28, pos := "law.go:102", after := #[{ on := 0, ground := Ground.data }, { on := 2, ground := Ground.data }, { on := 4, ground := Ground.data }, { on := 2, ground := Ground.chain }], guard := none }) rfl (fun K hK => ?_) AllReadyH.nil
                    · go_simp
                      go_at_call 23
                      refine (KL.out _ (B_9)).mono ?_
                      rintro e wL_10 ⟨ad2_10, cap2_10, rfl, R_10, kL_10⟩
                      have B_10 := (B_9).trans (kL_10.mono (B_9).size)
                      have x_10 := (kL_10.block _ l_9).trans x_9
                      have l_10 := Nat.lt_of_lt_of_le l_9 kL_10.size
                      go_wp2_with fail
                      refine hK.out _ _ (HS.out _ B_10) (fun hHeld => ?_)
                      clear hK K
                      try simp only [Act.put, List.setIfInBounds_toArray, List.set_cons_zero, List.set_cons_succ]
                      refine wpAnyH_take (i := 6) (oi := { dst := some 102, op := Op.move (Operand.tmp 108), type := 28, pos := "law.go:102", after := #[{ on := 5, ground := Ground.data }], guard := none }) (v := ?_) rfl (by kernel_rfl) (by kernel_rfl) (by kernel_rfl) (fun _ _ _ h => h) (Or.inl ⟨by rfl, ?_⟩) (by assumption) ?_
                      rotate_left 1
                      · (intro W hSw; (try obtain ⟨hSw, hSw2⟩ := hSw); go_simp; try with_reducible rfl)
                      try simp only [Act.put, List.setIfInBounds_toArray, List.set_cons_zero, List.set_cons_succ]
                      refine wpAnyH_take (i := 7) (oi := { dst := some 109, op := Op.extract (Operand.tmp 102) 0, type := 26, pos := "law.go:102", after := #[{ on := 6, ground := Ground.data }], guard := none }) (v := ?_) rfl (by kernel_rfl) (by kernel_rfl) (by kernel_rfl) (fun _ _ _ h => h) (Or.inl ⟨by rfl, ?_⟩) (by assumption) ?_
                      rotate_left 1
                      · (intro W hSw; (try obtain ⟨hSw, hSw2⟩ := hSw); go_simp; try with_reducible rfl)
                      try simp only [Act.put, List.setIfInBounds_toArray, List.set_cons_zero, List.set_cons_succ]
                      refine wpAnyH_take (i := 8) (oi := { dst := some 110, op := Op.extract (Operand.tmp 102) 1, type := 27, pos := "law.go:102", after := #[{ on := 6, ground := Ground.data }, { on := 10, ground := Ground.gcOnly Departure.lateStores }], guard := none }) (v := ?_) rfl (by kernel_rfl) (by kernel_rfl) (by kernel_rfl) (fun _ _ _ h => h) (Or.inl ⟨by rfl, ?_⟩) (by assumption) ?_
                      rotate_left 1
                      · (intro W hSw; (try obtain ⟨hSw, hSw2⟩ := hSw); go_simp; try with_reducible rfl)
                      try simp only [Act.put, List.setIfInBounds_toArray, List.set_cons_zero, List.set_cons_succ]
                      refine wpAnyH_ready (rs := [10]) (by kernel_rfl) (by simp) ?_
                      refine AllReadyH.cons (o := { dst := none, op := Op.store 26 (Operand.tmp 18) (Operand.tmp 109), type := 0, pos := "law.go:102", after := #[{ on := 9, ground := Ground.data }, { on := 7, ground := Ground.data }, { on := 5, ground := Ground.chain }, { on := 0, ground := Ground.phase }, { on := 1, ground := Ground.phase }, { on := 2, ground := Ground.phase }, { on := 3, ground := Ground.phase }, { on := 4, ground := Ground.phase }, { on := 5, ground := Ground.phase }, { on := 6, ground := Ground.phase }, { on := 7, ground := Ground.phase }, { on := 8, ground := Ground.textOnly Departure.lateStores }, { on := 9, ground := Ground.phase }], guard := none }) rfl (fun K hK => ?_) AllReadyH.nil
                      · have y_11 := cells_of x_10
                        have f_11 := froz_of x_10
                        have B_11 := (Below.setCell (Below.setCell (B_10) (p := ⟨w6.heap.size, 0, none⟩) (by exact hge_8) (.slice ad2_10 LK.1.length cap2_10)) (p := ⟨w6.heap.size, 1, none⟩) (by exact hge_8) (.int .i64 LK.2.1))
                        go_simp
                        refine hK.out _ _ (HS.out _ B_11) (fun hHeld => ?_)
                        clear hK K
                        try simp only [Act.put, List.setIfInBounds_toArray, List.set_cons_zero, List.set_cons_succ]
                        refine wpAnyH_take (i := 11) (oi := { dst := some 19, op := Op.assign (Operand.tmp 110), type := 27, pos := "law.go:102", after := #[{ on := 8, ground := Ground.data }, { on := 10, ground := Ground.chain }, { on := 0, ground := Ground.phase }, { on := 1, ground := Ground.phase }, { on := 2, ground := Ground.phase }, { on := 3, ground := Ground.phase }, { on := 4, ground := Ground.phase }, { on := 5, ground := Ground.phase }, { on := 6, ground := Ground.phase }, { on := 7, ground := Ground.phase }, { on := 8, ground := Ground.phase }, { on := 9, ground := Ground.phase }, { on := 10, ground := Ground.phase }], guard := none }) (v := ?_) rfl (by kernel_rfl) (by kernel_rfl) (by kernel_rfl) (fun _ _ _ h => h) (Or.inl ⟨by rfl, ?_⟩) (by assumption) ?_
                        rotate_left 1
                        · (intro W hSw; (try obtain ⟨hSw, hSw2⟩ := hSw); go_simp; try with_reducible rfl)
                        try simp only [Act.put, List.setIfInBounds_toArray, List.set_cons_zero, List.set_cons_succ]
                        refine wpAnyH_done (by kernel_rfl) ?_ _
                        go_wp2_with fail
                        go_meet
                        exact ⟨w6.heap.size, ad2_10, cap2_10, rfl, rfl, B_11, two_set x_10 (.slice ad2_10 LK.1.length cap2_10) (.int .i64 LK.2.1), Rs.setTwo R_10 x_10 (.slice ad2_10 LK.1.length cap2_10) (.int .i64 LK.2.1)⟩
              case rest =>
                obtain ⟨g16, ad2, cap2, rfl, rfl, B11, Q16, R16⟩ := hcut
                have B12 : Hid (Below w5.heap.size w5 wc) := B6.out.trans (B11.out.mono B6.out.size)
                have hokL : ∀ q ∈ LK.1, Okr q := HLd.out.okr (by omega)
                obtain ⟨v, hv⟩ : ∃ v, ofU LK.1 = v := ⟨_, rfl⟩
                have KOL : Hid (∀ W, Below w5.heap.size w5 W → Rs W ad2 LK.1 → Calls Tryd.prog 20 #[.agg #[.slice ad2 LK.1.length cap2, .int .i64 LK.2.1]] W fun e w' => e = .returned (.agg #[.int .i64 (v.b : Int), .int .i64 (v.n : Int), .int .i64 (v.d : Int), .int .i64 (v.l : Int)]) ∧ Below W.heap.size W w') := fun W hb h1 => by
                  show Calls _ _ _ _ _
                  rw [← hv]; exact of_w ad2 cap2 LK.2.1 LK.1 W (M5.out.below hb) h1 (by omega) hokL
                rw [hv] at HNl
                have hsv := ofU_small LK.1 hokL
                rw [hv] at hsv
                have m16 := cells_of Q16.out
                clear hokL KJ KL HS hv
                by_cases e1 : LK.2.2 = 0
                · have hle := HNl.out e1
                  have HLe : Hid (v.b ≤ u.b ∧ n ≤ LK.1.length ∧ v.n + n ≤ u.n + LK.1.length) := hle
                  have R17 : Hid (Rs wc ad2 LK.1) := R16.out
                  rw [e1]
                  clear e1 hle HNl
                  generalize LK.1.length = nL at *
                  go_upto_region 23 with (go_at_call 20; refine (KOL.out _ B12.out R17.out).mono ?_; rintro e w12 ⟨rfl, k12⟩)
                  have B12' : Hid (Below w5.heap.size w5 w12) := B12.out.trans (k12.mono B12.out.size)
                  have hb13 := below_box w12 (.cells #[.int .i64 (v.b : Int), .int .i64 (v.n : Int), .int .i64 (v.d : Int), .int .i64 (v.l : Int)] 54)
                  have hq13 := heap_alloc_new w12 (.cells #[.int .i64 (v.b : Int), .int .i64 (v.n : Int), .int .i64 (v.d : Int), .int .i64 (v.l : Int)] 54)
                  have hg16 : g16 < wc.heap.size := (Array.getElem?_eq_some_iff.1 Q16.out).1
                  generalize w12.alloc _ = w13 at *
                  have B13 : Hid (Below w5.heap.size w5 w13) := B12'.out.trans (hb13.mono B12'.out.size)
                  have Q17 : Hid (w13.heap[g16]? = _) := ((k12.trans (hb13.mono k12.size)).block _ hg16).trans Q16.out
                  clear m16 k12 hb13
                  have m9 := cells_of ((B13.out.block _ hg9).trans Q4.out)
                  have m10 := cells_of ((B13.out.block _ hg10).trans Q5.out)
                  have m16 := cells_of Q17.out
                  have m20 := cells_of hq13
                  have hl1 := HLe.out.1
                  have hl2 := HLe.out.2.1
                  have hl3 := HLe.out.2.2
                  have j1 : (v.b : Int) ≤ (u.b : Int) := by omega
                  go_upto_region 24 with fail
                  have j2 : (v.n : Int) ≤ (u.n : Int) + ((nL : Int) - (n : Int)) := by omega
                  have j3 : (0 : Int) ≤ (nL : Int) - (n : Int) := by omega
                  go_wp2_with fail
                  go_ret
                  exact ⟨rfl, B5.out.trans (B13.out.mono B5.out.size)⟩
                · have e1b : (LK.2.2 == 0) = false := by simpa using e1
                  go_wp2_with fail
                  go_meet
                  exact B12
            · have hk1 : (r.kind != 1) = true := by simp [hkd]
              clear hkd
              go_wp2_with fail
              go_meet
              case rel => exact B6
          case rest =>
            go_wp2_with fail
            go_roundw
            case rel => exact ⟨i + 1, by simp, hlt, hcut⟩
            case measure => simp [intOf]; omega
        · go_wp2_with fail
          go_ret
          exact ⟨rfl, B5.out.trans (Bw.out.mono B5.out.size)⟩

theorem cutsLaw (ad0 : Option Addr) (n cap0 : Nat) (X : List Tg) (sb : ByteArray) (hs : sb.size ≤ maxLen) (x : Tg) (w : World) (hm : Ml w) (z0 : X.length = n ∧ n ≤ cap0 ∧ cap0 ≤ 9223372036854775807 ∧ Ts w ad0 X ∧ (∀ x ∈ X, Tg.ok x) ∧ (ad0 = none → cap0 = 0)) :
    Calls Tryd.prog 5 #[.slice ad0 n cap0, .string sb, .agg x.cs.toArray] w fun e w' => e = .returned (.bool true) ∧ Below w.heap.size w w' := by
  obtain ⟨rfl, _, _, hT, ho, _⟩ := z0
  have hl : sb.data.toList.length ≤ 9223372036854775807 := by
    have := hs
    unfold maxLen at this
    rw [Lib.size_eq] at this
    exact this
  have e := cuts_w ad0 cap0 X sb.data.toList x w hm hl (fun hl W hb => planted_w ad0 cap0 X W (hm.below hb) (hT.below hb) ho hl)
  rw [← bs_of] at e
  exact e

end Go.Proofs.YtojnniacmmcddaaDoor
