/-
  Contracts: Link of the document's tree.
-/
import Derived.Test.YtpgiibpalmhhlaaGreatDoorDf
namespace Go.Proofs.YtpgiibpalmhhlaaGreatDoor
open Go.RowKit
open Go.Lib hiding intOf
set_option linter.unusedVariables false
set_option linter.unusedSimpArgs false

set_option maxRecDepth 20000 in
set_option maxHeartbeats 4000000 in
theorem link_d (ad : Option Addr) (cap : Nat) (nx : Int) (L : List Td) (s tt : List UInt8) (w : World) (hr : Ds w ad L) (hcap : L.length ≤ cap) (hnil : ad = none → cap = 0) (hl : L.length ≤ 800000) (hnx : 0 ≤ nx ∧ nx ≤ 900000000000) (hs : s.length ≤ 1000) (hps : (parts s).length ≤ 1001) (hj : (jn (parts s)).length ≤ 2000)
    (hF1 : (parD (upR (parts s) 1) L nx).1.length ≤ 900000) :
    Calls Tryz.prog 26 #[.agg #[.slice ad L.length cap, .int .i64 nx], .string (bs s), .string (bs tt)] w fun e w' => ∃ v, e = .returned (.tuple #[v, .int .i64 (linkD L nx s tt).2.2]) ∧ Dt w' v (linkD L nx s tt).1 (linkD L nx s tt).2.1 ∧ Below w.heap.size w w' := by
  have KP : Hid (∀ W, Ds W ad L → Calls Tryz.prog 49 #[.agg #[.slice ad L.length cap, .int .i64 nx], .string (bs s)] W fun e w' => ∃ ad' c', e = .returned (.tuple #[.agg #[.slice ad' (parD (upR (parts s) 1) L nx).1.length c', .int .i64 (parD (upR (parts s) 1) L nx).2.1], .int .i64 (parD (upR (parts s) 1) L nx).2.2]) ∧ Ds w' ad' (parD (upR (parts s) 1) L nx).1 ∧ (parD (upR (parts s) 1) L nx).1.length ≤ c' ∧ (ad' = none → c' = 0) ∧ Hid (ad' = ad ∨ ∃ gd, ad' = some ⟨gd, 0, none⟩ ∧ W.heap.size ≤ gd) ∧ Below W.heap.size W w') := fun W h => parents_d ad cap nx L s W h hcap hnil hl hnx hs hps hj
  have KF : Hid (∀ W, Ds W ad L → Calls Tryz.prog 13 #[.agg #[.slice ad L.length cap, .int .i64 nx], .string (bs tt)] W fun e w' => e = .returned (.int .i64 (dz L tt)) ∧ Below W.heap.size W w') := fun W h => find_d ad cap nx L tt W h (by omega)
  have KG : Hid (∀ W, Ds W ad L → Calls Tryz.prog 13 #[.agg #[.slice ad L.length cap, .int .i64 nx], .string (bs s)] W fun e w' => e = .returned (.int .i64 (dz L s)) ∧ Below W.heap.size W w') := fun W h => find_d ad cap nx L s W h (by omega)
  have KW : Hid (∀ W ad cap (M : List Td) ny (x : Td), Ds W ad M → M.length ≤ 900000 → (ad = none → cap = 0) → Calls Tryz.prog 50 #[.agg #[.slice ad M.length cap, .int .i64 ny], .agg #[.string (bs x.p), .int .i64 x.k, .int .i64 x.m, .bool x.made, .int .i64 x.id]] W fun e w' => ∃ gd c, e = .returned (.agg #[.slice (some ⟨gd, 0, none⟩) (withD M x).length c, .int .i64 ny]) ∧ Ds w' (some ⟨gd, 0, none⟩) (withD M x) ∧ (withD M x).length ≤ c ∧ W.heap.size + 3 ≤ gd ∧ Below W.heap.size W w') := fun W ad cap M ny x h1 h2 h3 => with_d ad cap ny M x W h1 h2 h3
  have H0 : Hid (Pa w _ ad cap L nx) := Pa.mk0 w ad cap L nx hr hcap hnil
  have htl := bs_toList s
  have hA : Hid (linkD L nx s tt = if s = [] then (L, nx, 100)
    else if fdD L tt = false then (L, nx, 4)
    else if (atD L tt).k ≠ 1 ∨ (fdD L s = true ∧ (atD L s).k = 4) then (L, nx, 130)
    else if (parD (upR (parts s) 1) L nx).2.2 ≠ 0 then (L, nx, (parD (upR (parts s) 1) L nx).2.2)
    else (withD (parD (upR (parts s) 1) L nx).1 { atD L tt with p := s }, (parD (upR (parts s) 1) L nx).2.1, 0)) := rfl
  clear hps hj hr
  generalize linkD L nx s tt = R at *
  obtain ⟨M, ny, er, hFe⟩ : ∃ M ny er, parD (upR (parts s) 1) L nx = (M, ny, er) := ⟨_, _, _, rfl⟩
  rw [hFe] at hA KP hF1
  replace hF1 : M.length ≤ 900000 := hF1
  clear hFe
  by_cases e0 : s = []
  · have hR : R = (L, nx, 100) := by rw [hA.out, if_pos e0]
    subst hR
    subst e0
    clear hA KP KF KG KW
    go_enter Tryz.func26, Tryz.ntmps26
    go_upto_region 1 with fail
    generalize (w.alloc _).alloc _ = w0 at *
    have m1 := cells_of H0.out.one
    have m2 := cells_of H0.out.two
    have f2 := froz_of H0.out.two
    obtain ⟨q1, q2, q3⟩ := H0.out.ends
    go_wp2_with fail
    have hld := run_loadVar_row _ _ _ 29 _ _ _ q1 Tryz.underlying29 rfl (by kernel_rfl)
    exact bodyPost_ret (v := .tuple #[.agg #[.slice ad L.length cap, .int .i64 nx], .int .i64 100]) (by rw [results_cell_tmp rfl]; simp [asAddr, hld]) rfl ⟨_, rfl, q2, q3⟩
  · have hbe : s.isEmpty = false := by cases s <;> simp_all
    have hA2 : Hid (R = if fdD L tt = false then (L, nx, 4)
      else if (atD L tt).k ≠ 1 ∨ (fdD L s = true ∧ (atD L s).k = 4) then (L, nx, 130)
      else if er ≠ 0 then (L, nx, er)
      else (withD M { atD L tt with p := s }, ny, 0)) := (by show _ = _; rw [hA.out, if_neg e0])
    clear hA
    have hX : Hid ((fdD L tt = false ∧ dz L tt = -1) ∨ (fdD L tt = true ∧ ∃ X : Nat, dz L tt = (X : Int) ∧ L[X]? = some (atD L tt))) := (by
      cases hf : fdD L tt with
      | false => exact .inl ⟨rfl, dz_no hf⟩
      | true =>
        obtain ⟨x, h1, _, h3⟩ := atD_get hf
        exact .inr ⟨rfl, _, (dz_yes hf).1, by rw [h3]; exact h1⟩)
    have hY : Hid ((fdD L s = false ∧ dz L s = -1) ∨ (fdD L s = true ∧ ∃ X : Nat, dz L s = (X : Int) ∧ L[X]? = some (atD L s))) := (by
      cases hf : fdD L s with
      | false => exact .inl ⟨rfl, dz_no hf⟩
      | true =>
        obtain ⟨x, h1, _, h3⟩ := atD_get hf
        exact .inr ⟨rfl, _, (dz_yes hf).1, by rw [h3]; exact h1⟩)
    generalize dz L s = Z2 at *
    generalize dz L tt = Z at *
    generalize fdD L s = B2 at *
    generalize fdD L tt = B at *
    generalize atD L s = y2 at *
    generalize atD L tt = y at *
    go_enter Tryz.func26, Tryz.ntmps26
    go_upto_region 1 with fail
    generalize (w.alloc _).alloc _ = w0 at *
    have m1 := cells_of H0.out.one
    go_upto_region 4 with (go_at_call 13; refine (KF.out _ H0.out.rows).mono ?_; rintro e w2 ⟨rfl, k2⟩)
    have H2 : Hid (Pa w w2 ad cap L nx) := H0.out.next k2
    clear m1 H0 k2 KF
    have m1 := cells_of H2.out.one
    have m2 := cells_of H2.out.two
    have f2 := froz_of H2.out.two
    rcases hX.out with ⟨hB, hZ⟩ | ⟨hB, X, hZ, hy⟩
    · have hA3 := hA2.out
      rw [if_pos hB] at hA3
      subst hA3
      subst hZ
      clear hA2 hX hY KP KG KW
      obtain ⟨q1, q2, q3⟩ := H2.out.ends
      go_wp2_with fail
      have hld := run_loadVar_row _ _ _ 29 _ _ _ q1 Tryz.underlying29 rfl (by kernel_rfl)
      exact bodyPost_ret (v := .tuple #[.agg #[.slice ad L.length cap, .int .i64 nx], .int .i64 4]) (by rw [results_cell_tmp rfl]; simp [asAddr, hld]) rfl ⟨_, rfl, q2, q3⟩
    · obtain ⟨b, o, rfl, hb1, hb2⟩ := H2.out.rows.at hy
      have hXl : X < L.length := (List.getElem?_eq_some_iff.1 hy).1
      have i1 : ¬ (X : Int) < 0 := by omega
      have i2 : (0 : Int) ≤ (X : Int) := by omega
      have i3 : (X : Int) < (L.length : Int) := by omega
      have hA3 := hA2.out
      rw [if_neg (by rw [hB]; simp)] at hA3
      have HA4 : Hid (R = if y.k ≠ 1 ∨ (B2 = true ∧ y2.k = 4) then (L, nx, 130) else if er ≠ 0 then (L, nx, er) else (withD M { y with p := s }, ny, 0)) := hA3
      subst hZ
      clear hb1 hb2 hA3 hA2 hX
      go_upto_region 7 with (go_at_call 13; refine (KG.out _ H2.out.rows).mono ?_; rintro e w3 ⟨rfl, k3⟩)
      have H3 : Hid (Pa w w3 (some ⟨b, o, none⟩) cap L nx) := H2.out.next k3
      clear m1 m2 f2 H2 KG k3
      have m1 := cells_of H3.out.one
      have m2 := cells_of H3.out.two
      have f2 := froz_of H3.out.two
      obtain ⟨b', o', e', hb3, hb4⟩ := H3.out.rows.at hy
      cases e'
      have c1 : w3.cell? ⟨b, o + X * 5 + 1, none⟩ = some (.int .i64 y.k) := hb4 1 _ rfl
      by_cases ck : y.k = 1
      · have c5 : (y.k == 1) = true := by simpa using ck
        rcases hY.out with ⟨hB2, hZ2⟩ | ⟨hB2, X2, hZ2, hy2⟩
        · have HA5 : Hid (R = if er ≠ 0 then (L, nx, er) else (withD M { y with p := s }, ny, 0)) := (by show _ = _; rw [HA4.out, if_neg (fun h => h.elim (fun h => h ck) (fun h => by rw [hB2] at h; cases h.1))])
          subst hZ2
          clear HA4 hY hB2
          have c0 : w3.cell? ⟨b, o + X * 5, none⟩ = some (.string (bs y.p)) := hb4 0 _ rfl
          have c2 : w3.cell? ⟨b, o + X * 5 + 2, none⟩ = some (.int .i64 y.m) := hb4 2 _ rfl
          have c3 : w3.cell? ⟨b, o + X * 5 + 3, none⟩ = some (.bool y.made) := hb4 3 _ rfl
          have c4 : w3.cell? ⟨b, o + X * 5 + 4, none⟩ = some (.int .i64 y.id) := hb4 4 _ rfl
          go_upto_region 9 with fail
          clear ck
          go_upto_region 10 with fail
          clear c0 c1 c2 c3 c4
          have kx := below_box w3 (.cells #[.string (bs y.p), .int .i64 y.k, .int .i64 y.m, .bool y.made, .int .i64 y.id] 47)
          have qx := heap_alloc_new w3 (.cells #[.string (bs y.p), .int .i64 y.k, .int .i64 y.m, .bool y.made, .int .i64 y.id] 47)
          have zx := size_box w3 (.cells #[.string (bs y.p), .int .i64 y.k, .int .i64 y.m, .bool y.made, .int .i64 y.id] 47)
          have l3 := H3.out.lt
          generalize hw4 : w3.alloc _ = w4 at *
          clear hw4
          have H4 : Hid (Pa w w4 (some ⟨b, o, none⟩) cap L nx) := H3.out.next kx
          clear m1 m2 f2 hb4 H3
          have m1 := cells_of H4.out.one
          generalize w3.heap.size = g3 at *
          clear kx
          go_upto_region 11 with (go_at_call 49; refine (KP.out _ H4.out.rows).mono ?_; rintro e w5 ⟨adm, cm, rfl, D5, C5, N5, Q5, k5⟩)
          have E6 : Hid (M = [] ∨ ∃ b o, adm = some ⟨b, o, none⟩ ∧ b ≠ g3) := (.inr (by rcases Q5.out with e | ⟨gd, e, h⟩; exact ⟨b, o, e, by omega⟩; exact ⟨gd, 0, e, by omega⟩))
          clear Q5
          have q5 := heap_alloc_new w5 (.cells #[.slice adm M.length cm, .int .i64 ny] 29)
          have k6 : Below w4.heap.size w4 (w5.alloc (.cells #[.slice adm M.length cm, .int .i64 ny] 29)) := k5.alloc k5.size _
          have D6 : Hid (Ds (w5.alloc (.cells #[.slice adm M.length cm, .int .i64 ny] 29)) adm M) := D5.below (below_box w5 _)
          have h56 : w4.heap.size ≤ w5.heap.size := k5.size
          generalize hw6 : w5.alloc _ = w6 at *
          clear hw6
          generalize w5.heap.size = g5 at *
          have H6 : Hid (Pa w w6 (some ⟨b, o, none⟩) cap L nx) := H4.out.next k6
          have q6 : w6.heap[g3]? = some (.cells #[.string (bs y.p), .int .i64 y.k, .int .i64 y.m, .bool y.made, .int .i64 y.id] 47 (0, 0)) := (k6.block _ (by omega)).trans qx
          clear m1 D5 k5 KP k6 H4 qx
          have m1 := cells_of H6.out.one
          have m2 := cells_of H6.out.two
          have f2 := froz_of H6.out.two
          have m5 := cells_of q5
          have m6 := cells_of q6
          have f6 := froz_of q6
          by_cases c3 : er = 0
          · have hR := HA5.out
            rw [if_neg (fun h => h c3)] at hR
            subst hR
            subst c3
            clear HA5
            go_upto_region 14 with fail
            have qs : (w6.setCell ⟨g3, 0, none⟩ (.string (bs s))).heap[g3]? = some (.cells #[.string (bs s), .int .i64 y.k, .int .i64 y.m, .bool y.made, .int .i64 y.id] 47 (0, 0)) := (by have := heap_setCell_same w6 g3 0 _ _ (.string (bs s)) q6; rw [this]; rfl)
            have q5' : (w6.setCell ⟨g3, 0, none⟩ (.string (bs s))).heap[g5]? = some (.cells #[.slice adm M.length cm, .int .i64 ny] 29 (0, 0)) := (Below.heap_setCell _ _ _ _ (by show g5 ≠ g3; omega)).trans q5
            have D7 : Hid (Ds (w6.setCell ⟨g3, 0, none⟩ (.string (bs s))) adm M) := D6.out.setG g3 0 E6.out _
            have H7 : Hid (Pa w (w6.setCell ⟨g3, 0, none⟩ (.string (bs s))) (some ⟨b, o, none⟩) cap L nx) := H6.out.setG g3 0 _ (by omega) (.inr ⟨b, o, rfl, by omega⟩)
            generalize hw7 : w6.setCell ⟨g3, 0, none⟩ _ = w7 at *
            clear hw7
            clear m1 m2 f2 m5 m6 f6
            have m2 := cells_of H7.out.two
            have f2 := froz_of H7.out.two
            have m5 := cells_of q5'
            have m6 := cells_of qs
            have KX : Hid (Calls Tryz.prog 50 #[.agg #[.slice adm M.length cm, .int .i64 ny], .agg #[.string (bs s), .int .i64 y.k, .int .i64 y.m, .bool y.made, .int .i64 y.id]] w7 fun e w' => ∃ gd c, e = .returned (.agg #[.slice (some ⟨gd, 0, none⟩) (withD M { y with p := s }).length c, .int .i64 ny]) ∧ Ds w' (some ⟨gd, 0, none⟩) (withD M { y with p := s }) ∧ (withD M { y with p := s }).length ≤ c ∧ w7.heap.size + 3 ≤ gd ∧ Below w7.heap.size w7 w') := KW.out w7 adm cm M ny { y with p := s } D7.out hF1 N5
            generalize hM5 : withD M { y with p := s } = M5 at *
            have HM5 : Hid (withD M { y with p := s } = M5) := hM5
            clear hM5
            have l4 := H7.out.lt
            go_wp2_with (go_at_call 50; refine KX.out.mono ?_; rintro e w8 ⟨gd, c8, rfl, D8, C8, G8, k8⟩; have H8 : Hid (Pa w w8 (some ⟨b, o, none⟩) cap L nx) := H7.out.next k8; have d2 := cells_of H8.out.two; have g2 := froz_of H8.out.two)
            obtain ⟨q1, q2, q3⟩ := endD (ny := ny) H8.out.two D8 (by omega) C8 H8.out.bel
            have hld := run_loadVar_row _ _ _ 29 _ _ _ q1 Tryz.underlying29 rfl (by kernel_rfl)
            exact bodyPost_ret (v := .tuple #[.agg #[.slice (some ⟨gd, 0, none⟩) M5.length c8, .int .i64 ny], .int .i64 0]) (by rw [results_cell_tmp rfl]; simp [asAddr, hld]) rfl ⟨_, rfl, by show Dt _ _ (withD M { y with p := s }) _; rw [HM5.out]; exact q2, q3⟩
          · have hR := HA5.out
            rw [if_pos c3] at hR
            subst hR
            have c6 : (er != 0) = true := by simpa using c3
            clear HA5
            obtain ⟨q1, q2, q3⟩ := H6.out.ends
            go_wp2_with fail
            have hld := run_loadVar_row _ _ _ 29 _ _ _ q1 Tryz.underlying29 rfl (by kernel_rfl)
            exact bodyPost_ret (v := .tuple #[.agg #[.slice (some ⟨b, o, none⟩) L.length cap, .int .i64 nx], .int .i64 er]) (by rw [results_cell_tmp rfl]; simp [asAddr, hld]) rfl ⟨_, rfl, q2, q3⟩
        · obtain ⟨b'', o'', e'', hb5, hb6⟩ := H3.out.rows.at hy2
          cases e''
          have c8 : w3.cell? ⟨b, o + X2 * 5 + 1, none⟩ = some (.int .i64 y2.k) := hb6 1 _ rfl
          have hXl2 : X2 < L.length := (List.getElem?_eq_some_iff.1 hy2).1
          have i5 : (0 : Int) ≤ (X2 : Int) := by omega
          have i6 : (X2 : Int) < (L.length : Int) := by omega
          subst hZ2
          by_cases c4 : y2.k = 4
          · have hR := HA4.out
            rw [if_pos (.inr ⟨hB2, c4⟩)] at hR
            subst hR
            have c9 : (y2.k == 4) = true := by simpa using c4
            have c9' : (y2.k != 4) = false := by simpa using c4
            clear HA4 hY hb4 hb6 hy hy2 KP KW c4
            obtain ⟨q1, q2, q3⟩ := H3.out.ends
            go_wp2_with fail
            have hld := run_loadVar_row _ _ _ 29 _ _ _ q1 Tryz.underlying29 rfl (by kernel_rfl)
            exact bodyPost_ret (v := .tuple #[.agg #[.slice (some ⟨b, o, none⟩) L.length cap, .int .i64 nx], .int .i64 130]) (by rw [results_cell_tmp rfl]; simp [asAddr, hld]) rfl ⟨_, rfl, q2, q3⟩
          · have HA5 : Hid (R = if er ≠ 0 then (L, nx, er) else (withD M { y with p := s }, ny, 0)) := (by show _ = _; rw [HA4.out, if_neg (fun h => h.elim (fun h => h ck) (fun h => c4 h.2))])
            have c9 : (y2.k == 4) = false := by simpa using c4
            clear HA4 hY hB2 hb6 hy2 c4
            have c0 : w3.cell? ⟨b, o + X * 5, none⟩ = some (.string (bs y.p)) := hb4 0 _ rfl
            have c2 : w3.cell? ⟨b, o + X * 5 + 2, none⟩ = some (.int .i64 y.m) := hb4 2 _ rfl
            have c3 : w3.cell? ⟨b, o + X * 5 + 3, none⟩ = some (.bool y.made) := hb4 3 _ rfl
            have c4 : w3.cell? ⟨b, o + X * 5 + 4, none⟩ = some (.int .i64 y.id) := hb4 4 _ rfl
            go_upto_region 9 with fail
            clear ck
            go_upto_region 10 with fail
            clear c0 c1 c2 c3 c4
            have kx := below_box w3 (.cells #[.string (bs y.p), .int .i64 y.k, .int .i64 y.m, .bool y.made, .int .i64 y.id] 47)
            have qx := heap_alloc_new w3 (.cells #[.string (bs y.p), .int .i64 y.k, .int .i64 y.m, .bool y.made, .int .i64 y.id] 47)
            have zx := size_box w3 (.cells #[.string (bs y.p), .int .i64 y.k, .int .i64 y.m, .bool y.made, .int .i64 y.id] 47)
            have l3 := H3.out.lt
            generalize hw4 : w3.alloc _ = w4 at *
            clear hw4
            have H4 : Hid (Pa w w4 (some ⟨b, o, none⟩) cap L nx) := H3.out.next kx
            clear m1 m2 f2 hb4 H3
            have m1 := cells_of H4.out.one
            generalize w3.heap.size = g3 at *
            clear kx
            go_upto_region 11 with (go_at_call 49; refine (KP.out _ H4.out.rows).mono ?_; rintro e w5 ⟨adm, cm, rfl, D5, C5, N5, Q5, k5⟩)
            have E6 : Hid (M = [] ∨ ∃ b o, adm = some ⟨b, o, none⟩ ∧ b ≠ g3) := (.inr (by rcases Q5.out with e | ⟨gd, e, h⟩; exact ⟨b, o, e, by omega⟩; exact ⟨gd, 0, e, by omega⟩))
            clear Q5
            have q5 := heap_alloc_new w5 (.cells #[.slice adm M.length cm, .int .i64 ny] 29)
            have k6 : Below w4.heap.size w4 (w5.alloc (.cells #[.slice adm M.length cm, .int .i64 ny] 29)) := k5.alloc k5.size _
            have D6 : Hid (Ds (w5.alloc (.cells #[.slice adm M.length cm, .int .i64 ny] 29)) adm M) := D5.below (below_box w5 _)
            have h56 : w4.heap.size ≤ w5.heap.size := k5.size
            generalize hw6 : w5.alloc _ = w6 at *
            clear hw6
            generalize w5.heap.size = g5 at *
            have H6 : Hid (Pa w w6 (some ⟨b, o, none⟩) cap L nx) := H4.out.next k6
            have q6 : w6.heap[g3]? = some (.cells #[.string (bs y.p), .int .i64 y.k, .int .i64 y.m, .bool y.made, .int .i64 y.id] 47 (0, 0)) := (k6.block _ (by omega)).trans qx
            clear m1 D5 k5 KP k6 H4 qx
            have m1 := cells_of H6.out.one
            have m2 := cells_of H6.out.two
            have f2 := froz_of H6.out.two
            have m5 := cells_of q5
            have m6 := cells_of q6
            have f6 := froz_of q6
            by_cases c3 : er = 0
            · have hR := HA5.out
              rw [if_neg (fun h => h c3)] at hR
              subst hR
              subst c3
              clear HA5
              go_upto_region 14 with fail
              have qs : (w6.setCell ⟨g3, 0, none⟩ (.string (bs s))).heap[g3]? = some (.cells #[.string (bs s), .int .i64 y.k, .int .i64 y.m, .bool y.made, .int .i64 y.id] 47 (0, 0)) := (by have := heap_setCell_same w6 g3 0 _ _ (.string (bs s)) q6; rw [this]; rfl)
              have q5' : (w6.setCell ⟨g3, 0, none⟩ (.string (bs s))).heap[g5]? = some (.cells #[.slice adm M.length cm, .int .i64 ny] 29 (0, 0)) := (Below.heap_setCell _ _ _ _ (by show g5 ≠ g3; omega)).trans q5
              have D7 : Hid (Ds (w6.setCell ⟨g3, 0, none⟩ (.string (bs s))) adm M) := D6.out.setG g3 0 E6.out _
              have H7 : Hid (Pa w (w6.setCell ⟨g3, 0, none⟩ (.string (bs s))) (some ⟨b, o, none⟩) cap L nx) := H6.out.setG g3 0 _ (by omega) (.inr ⟨b, o, rfl, by omega⟩)
              generalize hw7 : w6.setCell ⟨g3, 0, none⟩ _ = w7 at *
              clear hw7
              clear m1 m2 f2 m5 m6 f6
              have m2 := cells_of H7.out.two
              have f2 := froz_of H7.out.two
              have m5 := cells_of q5'
              have m6 := cells_of qs
              have KX : Hid (Calls Tryz.prog 50 #[.agg #[.slice adm M.length cm, .int .i64 ny], .agg #[.string (bs s), .int .i64 y.k, .int .i64 y.m, .bool y.made, .int .i64 y.id]] w7 fun e w' => ∃ gd c, e = .returned (.agg #[.slice (some ⟨gd, 0, none⟩) (withD M { y with p := s }).length c, .int .i64 ny]) ∧ Ds w' (some ⟨gd, 0, none⟩) (withD M { y with p := s }) ∧ (withD M { y with p := s }).length ≤ c ∧ w7.heap.size + 3 ≤ gd ∧ Below w7.heap.size w7 w') := KW.out w7 adm cm M ny { y with p := s } D7.out hF1 N5
              generalize hM5 : withD M { y with p := s } = M5 at *
              have HM5 : Hid (withD M { y with p := s } = M5) := hM5
              clear hM5
              have l4 := H7.out.lt
              go_wp2_with (go_at_call 50; refine KX.out.mono ?_; rintro e w8 ⟨gd, c8, rfl, D8, C8, G8, k8⟩; have H8 : Hid (Pa w w8 (some ⟨b, o, none⟩) cap L nx) := H7.out.next k8; have d2 := cells_of H8.out.two; have g2 := froz_of H8.out.two)
              obtain ⟨q1, q2, q3⟩ := endD (ny := ny) H8.out.two D8 (by omega) C8 H8.out.bel
              have hld := run_loadVar_row _ _ _ 29 _ _ _ q1 Tryz.underlying29 rfl (by kernel_rfl)
              exact bodyPost_ret (v := .tuple #[.agg #[.slice (some ⟨gd, 0, none⟩) M5.length c8, .int .i64 ny], .int .i64 0]) (by rw [results_cell_tmp rfl]; simp [asAddr, hld]) rfl ⟨_, rfl, by show Dt _ _ (withD M { y with p := s }) _; rw [HM5.out]; exact q2, q3⟩
            · have hR := HA5.out
              rw [if_pos c3] at hR
              subst hR
              have c6 : (er != 0) = true := by simpa using c3
              clear HA5
              obtain ⟨q1, q2, q3⟩ := H6.out.ends
              go_wp2_with fail
              have hld := run_loadVar_row _ _ _ 29 _ _ _ q1 Tryz.underlying29 rfl (by kernel_rfl)
              exact bodyPost_ret (v := .tuple #[.agg #[.slice (some ⟨b, o, none⟩) L.length cap, .int .i64 nx], .int .i64 er]) (by rw [results_cell_tmp rfl]; simp [asAddr, hld]) rfl ⟨_, rfl, q2, q3⟩
      · have hR := HA4.out
        rw [if_pos (.inl ck)] at hR
        subst hR
        have c5 : (y.k == 1) = false := by simpa using ck
        clear HA4 hY hb4 hy KP KW
        obtain ⟨q1, q2, q3⟩ := H3.out.ends
        go_wp2_with fail
        have hld := run_loadVar_row _ _ _ 29 _ _ _ q1 Tryz.underlying29 rfl (by kernel_rfl)
        exact bodyPost_ret (v := .tuple #[.agg #[.slice (some ⟨b, o, none⟩) L.length cap, .int .i64 nx], .int .i64 130]) (by rw [results_cell_tmp rfl]; simp [asAddr, hld]) rfl ⟨_, rfl, q2, q3⟩
end Go.Proofs.YtpgiibpalmhhlaaGreatDoor
