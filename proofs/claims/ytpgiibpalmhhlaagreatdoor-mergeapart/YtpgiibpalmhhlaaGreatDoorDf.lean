/-
  Contracts: Add of the document's tree.
-/
import Derived.Test.YtpgiibpalmhhlaaGreatDoorDe
namespace Go.Proofs.YtpgiibpalmhhlaaGreatDoor
open Go.RowKit
open Go.Lib hiding intOf
set_option linter.unusedVariables false
set_option linter.unusedSimpArgs false

theorem endD {w W : World} {gd c : Nat} {M : List Td} {ny : Int} (h2 : W.heap[w.heap.size + 1]? = some (.cells #[.slice none 0 0, .int .i64 0] 29 (0, 0))) (D : Ds W (some ⟨gd, 0, none⟩) M) (hg : gd ≠ w.heap.size + 1) (hc : M.length ≤ c) (hb : Below w.heap.size w W) :
    ((W.setCell ⟨w.heap.size + 1, 0, none⟩ (.slice (some ⟨gd, 0, none⟩) M.length c)).setCell ⟨w.heap.size + 1, 1, none⟩ (.int .i64 ny)).heap[w.heap.size + 1]? = some (.cells #[.slice (some ⟨gd, 0, none⟩) M.length c, .int .i64 ny] 29 (0, 0)) ∧
      Dt ((W.setCell ⟨w.heap.size + 1, 0, none⟩ (.slice (some ⟨gd, 0, none⟩) M.length c)).setCell ⟨w.heap.size + 1, 1, none⟩ (.int .i64 ny)) (.agg #[.slice (some ⟨gd, 0, none⟩) M.length c, .int .i64 ny]) M ny ∧
      Below w.heap.size w ((W.setCell ⟨w.heap.size + 1, 0, none⟩ (.slice (some ⟨gd, 0, none⟩) M.length c)).setCell ⟨w.heap.size + 1, 1, none⟩ (.int .i64 ny)) :=
  ⟨two_set h2 _ _, ⟨_, c, rfl, (D.set1 _ _ hg _).set1 _ _ hg _, hc, fun e => by cases e⟩, (hb.setCell (by show _ ≤ w.heap.size + 1; omega) _).setCell (by show _ ≤ w.heap.size + 1; omega) _⟩

set_option maxRecDepth 20000 in
set_option maxHeartbeats 4000000 in
theorem add_d (ad : Option Addr) (cap : Nat) (nx : Int) (L : List Td) (s : List UInt8) (k m : Int) (w : World) (hr : Ds w ad L) (hcap : L.length ≤ cap) (hnil : ad = none → cap = 0) (hl : L.length ≤ 800000) (hnx : 0 ≤ nx ∧ nx ≤ 900000000000) (hs : s.length ≤ 1000) (hps : (parts s).length ≤ 1001) (hj : (jn (parts s)).length ≤ 2000)
    (hF1 : (parD (upR (parts s) 1) L nx).1.length ≤ 900000) (hF2 : 0 ≤ (parD (upR (parts s) 1) L nx).2.1 ∧ (parD (upR (parts s) 1) L nx).2.1 ≤ 1000000000000) :
    Calls Tryz.prog 27 #[.agg #[.slice ad L.length cap, .int .i64 nx], .string (bs s), .int .i64 k, .int .i64 m] w fun e w' => ∃ v, e = .returned (.tuple #[v, .int .i64 (addD L nx s k m).2.2]) ∧ Dt w' v (addD L nx s k m).1 (addD L nx s k m).2.1 ∧ Below w.heap.size w w' := by
  have KP : Hid (∀ W, Ds W ad L → Calls Tryz.prog 49 #[.agg #[.slice ad L.length cap, .int .i64 nx], .string (bs s)] W fun e w' => ∃ ad' c', e = .returned (.tuple #[.agg #[.slice ad' (parD (upR (parts s) 1) L nx).1.length c', .int .i64 (parD (upR (parts s) 1) L nx).2.1], .int .i64 (parD (upR (parts s) 1) L nx).2.2]) ∧ Ds w' ad' (parD (upR (parts s) 1) L nx).1 ∧ (parD (upR (parts s) 1) L nx).1.length ≤ c' ∧ (ad' = none → c' = 0) ∧ Hid (ad' = ad ∨ ∃ gd, ad' = some ⟨gd, 0, none⟩ ∧ W.heap.size ≤ gd) ∧ Below W.heap.size W w') := fun W h => parents_d ad cap nx L s W h hcap hnil hl hnx hs hps hj
  have KF : Hid (∀ W, Ds W ad L → Calls Tryz.prog 13 #[.agg #[.slice ad L.length cap, .int .i64 nx], .string (bs s)] W fun e w' => e = .returned (.int .i64 (dz L s)) ∧ Below W.heap.size W w') := fun W h => find_d ad cap nx L s W h (by omega)
  have KW : Hid (∀ W ad cap (M : List Td) ny (x : Td), Ds W ad M → M.length ≤ 900000 → (ad = none → cap = 0) → Calls Tryz.prog 50 #[.agg #[.slice ad M.length cap, .int .i64 ny], .agg #[.string (bs x.p), .int .i64 x.k, .int .i64 x.m, .bool x.made, .int .i64 x.id]] W fun e w' => ∃ gd c, e = .returned (.agg #[.slice (some ⟨gd, 0, none⟩) (withD M x).length c, .int .i64 ny]) ∧ Ds w' (some ⟨gd, 0, none⟩) (withD M x) ∧ (withD M x).length ≤ c ∧ W.heap.size + 3 ≤ gd ∧ Below W.heap.size W w') := fun W ad cap M ny x h1 h2 h3 => with_d ad cap ny M x W h1 h2 h3
  have H0 : Hid (Pa w _ ad cap L nx) := Pa.mk0 w ad cap L nx hr hcap hnil
  have htl := bs_toList s
  have hA : Hid (addD L nx s k m = if s = [] then (L, nx, 100)
    else if fdD L s = true ∧ decide ((atD L s).k = 4) ≠ decide (k = 4) then (L, nx, 130)
    else if (parD (upR (parts s) 1) L nx).2.2 ≠ 0 then (L, nx, (parD (upR (parts s) 1) L nx).2.2)
    else if fdD L s = true ∧ k = 4 then (withD (parD (upR (parts s) 1) L nx).1 ⟨s, k, m, false, (atD L s).id⟩, (parD (upR (parts s) 1) L nx).2.1, 0)
    else (withD (parD (upR (parts s) 1) L nx).1 ⟨s, k, m, false, (parD (upR (parts s) 1) L nx).2.1⟩, (parD (upR (parts s) 1) L nx).2.1 + 1, 0)) := rfl
  clear hps hj hr
  generalize addD L nx s k m = R at *
  obtain ⟨M, ny, er, hFe⟩ : ∃ M ny er, parD (upR (parts s) 1) L nx = (M, ny, er) := ⟨_, _, _, rfl⟩
  rw [hFe] at hA KP hF1 hF2
  replace hF1 : M.length ≤ 900000 := hF1
  replace hF2 : 0 ≤ ny ∧ ny ≤ 1000000000000 := hF2
  clear hFe
  by_cases e0 : s = []
  · have hR : R = (L, nx, 100) := by rw [hA.out, if_pos e0]
    subst hR
    subst e0
    clear hA KP KF KW
    go_enter Tryz.func27, Tryz.ntmps27
    go_upto_region 1 with fail
    generalize (w.alloc _).alloc _ = w0 at *
    have m1 := cells_of H0.out.one
    have m2 := cells_of H0.out.two
    have f2 := froz_of H0.out.two
    obtain ⟨q1, q2, q3⟩ := H0.out.ends
    go_wp2_with fail
    have hld := run_loadVar_row _ _ _ 29 _ _ _ q1 Tryz.underlying29 rfl (by kernel_rfl)
    exact bodyPost_ret (v := .tuple #[.agg #[.slice ad L.length cap, .int .i64 nx], .int .i64 100]) (by rw [results_cell_tmp rfl]; simp [asAddr, hld]) rfl ⟨_, rfl, q2, q3⟩
  · have hbe : s.isEmpty = false := by cases s <;> simp_all
    have hA2 : Hid (R = if fdD L s = true ∧ decide ((atD L s).k = 4) ≠ decide (k = 4) then (L, nx, 130)
      else if er ≠ 0 then (L, nx, er)
      else if fdD L s = true ∧ k = 4 then (withD M ⟨s, k, m, false, (atD L s).id⟩, ny, 0)
      else (withD M ⟨s, k, m, false, ny⟩, ny + 1, 0)) := (by show _ = _; rw [hA.out, if_neg e0])
    clear hA
    have hw1 : wrap64 (ny + 1) = ny + 1 := by unfold wrap64; omega
    -- the place of the thing that may be there
    have hX : Hid ((fdD L s = false ∧ dz L s = -1) ∨ (fdD L s = true ∧ ∃ X : Nat, dz L s = (X : Int) ∧ L[X]? = some (atD L s))) := (by
      cases hf : fdD L s with
      | false => exact .inl ⟨rfl, dz_no hf⟩
      | true =>
        obtain ⟨x, h1, _, h3⟩ := atD_get hf
        exact .inr ⟨rfl, _, (dz_yes hf).1, by rw [h3]; exact h1⟩)
    generalize dz L s = Z at *
    generalize fdD L s = B at *
    generalize atD L s = y at *
    go_enter Tryz.func27, Tryz.ntmps27
    go_upto_region 1 with fail
    generalize (w.alloc _).alloc _ = w0 at *
    have m1 := cells_of H0.out.one
    go_upto_region 4 with (go_at_call 13; refine (KF.out _ H0.out.rows).mono ?_; rintro e w2 ⟨rfl, k2⟩)
    have H2 : Hid (Pa w w2 ad cap L nx) := H0.out.next k2
    clear m1 H0 k2 KF
    have m1 := cells_of H2.out.one
    have m2 := cells_of H2.out.two
    have f2 := froz_of H2.out.two
    rcases hX.out with ⟨hB, hZ⟩ | ⟨hB, X, hZ, hy⟩
    · have hA3 := hA2.out
      rw [hB, if_neg (by simp), if_neg (by simp : ¬ (false = true ∧ k = 4))] at hA3
      subst hZ
      have HA4 : Hid (R = if er ≠ 0 then (L, nx, er) else (withD M ⟨s, k, m, false, ny⟩, ny + 1, 0)) := hA3
      clear hA3 hA2 hX
      go_upto_region 7 with (go_at_call 49; refine (KP.out _ H2.out.rows).mono ?_; rintro e w3 ⟨adm, cm, rfl, D3, C3, N3, Q3, k3⟩)
      have k4 : Below w2.heap.size w2 (w3.alloc (.cells #[.slice adm M.length cm, .int .i64 ny] 29)) := k3.alloc k3.size _
      have hg4 : w2.heap.size ≤ w3.heap.size := k3.size
      have q4 := heap_alloc_new w3 (.cells #[.slice adm M.length cm, .int .i64 ny] 29)
      have D4 := D3.below (below_box w3 (.cells #[.slice adm M.length cm, .int .i64 ny] 29))
      have E4 : M = [] ∨ ∃ b o, adm = some ⟨b, o, none⟩ ∧ b ≠ w3.heap.size := D3.size.imp id (fun ⟨b, o, e, h⟩ => ⟨b, o, e, by omega⟩)
      have z4 := size_box w3 (.cells #[.slice adm M.length cm, .int .i64 ny] 29)
      generalize w3.alloc _ = w4 at *
      generalize w3.heap.size = g4 at *
      have H4 : Hid (Pa w w4 ad cap L nx) := H2.out.next k4
      clear m1 m2 f2 D3 k3 KP
      have m1 := cells_of H4.out.one
      have m2 := cells_of H4.out.two
      have f2 := froz_of H4.out.two
      have m4 := cells_of q4
      have f4 := froz_of q4
      by_cases c3 : er = 0
      · have hR := HA4.out
        rw [if_neg (fun h => h c3)] at hR
        subst hR
        subst c3
        clear HA4
        have q5 : (w4.setCell ⟨g4, 1, none⟩ (.int .i64 (ny + 1))).heap[g4]? = some (.cells #[.slice adm M.length cm, .int .i64 (ny + 1)] 29 (0, 0)) := (by have := heap_setCell_same w4 g4 1 _ _ (.int .i64 (ny + 1)) q4; rw [this]; rfl)
        have D5 : Hid (Ds (w4.setCell ⟨g4, 1, none⟩ (.int .i64 (ny + 1))) adm M) := D4.setG g4 1 E4 _
        have H5 : Hid (Pa w (w4.setCell ⟨g4, 1, none⟩ (.int .i64 (ny + 1))) ad cap L nx) := H2.out.next (k4.setCell (by show _ ≤ g4; exact hg4) _)
        go_upto_region 13 with fail
        generalize w4.setCell ⟨g4, 1, none⟩ _ = w5 at *
        clear m1 m2 f2 m4 f4
        have m1 := cells_of H5.out.one
        have m2 := cells_of H5.out.two
        have f2 := froz_of H5.out.two
        have m5 := cells_of q5
        have KX : Hid (Calls Tryz.prog 50 #[.agg #[.slice adm M.length cm, .int .i64 (ny + 1)], .agg #[.string (bs s), .int .i64 k, .int .i64 m, .bool false, .int .i64 (ny)]] w5 fun e w' => ∃ gd c, e = .returned (.agg #[.slice (some ⟨gd, 0, none⟩) (withD M ⟨s, k, m, false, ny⟩).length c, .int .i64 (ny + 1)]) ∧ Ds w' (some ⟨gd, 0, none⟩) (withD M ⟨s, k, m, false, ny⟩) ∧ (withD M ⟨s, k, m, false, ny⟩).length ≤ c ∧ w5.heap.size + 3 ≤ gd ∧ Below w5.heap.size w5 w') := KW.out w5 adm cm M (ny + 1) ⟨s, k, m, false, ny⟩ D5.out hF1 N3
        generalize hM5 : withD M ⟨s, k, m, false, ny⟩ = M5 at *
        have HM5 : Hid (withD M ⟨s, k, m, false, ny⟩ = M5) := hM5
        clear hM5
        have l4 := H5.out.lt
        go_wp2_with (go_at_call 50; refine KX.out.mono ?_; rintro e w6 ⟨gd, c6, rfl, D6, C6, G6, k6⟩; have H6 : Hid (Pa w w6 ad cap L nx) := H5.out.next k6; have d2 := cells_of H6.out.two; have g2 := froz_of H6.out.two)
        obtain ⟨q1, q2, q3⟩ := endD (ny := ny + 1) H6.out.two D6 (by omega) C6 H6.out.bel
        have hld := run_loadVar_row _ _ _ 29 _ _ _ q1 Tryz.underlying29 rfl (by kernel_rfl)
        exact bodyPost_ret (v := .tuple #[.agg #[.slice (some ⟨gd, 0, none⟩) M5.length c6, .int .i64 (ny + 1)], .int .i64 0]) (by rw [results_cell_tmp rfl]; simp [asAddr, hld]) rfl ⟨_, rfl, by show Dt _ _ (withD M ⟨s, k, m, false, ny⟩) _; rw [HM5.out]; exact q2, q3⟩
      · have hR := HA4.out
        rw [if_pos c3] at hR
        subst hR
        have c5 : (er != 0) = true := by simpa using c3
        clear HA4
        obtain ⟨q1, q2, q3⟩ := H4.out.ends
        go_wp2_with fail
        have hld := run_loadVar_row _ _ _ 29 _ _ _ q1 Tryz.underlying29 rfl (by kernel_rfl)
        exact bodyPost_ret (v := .tuple #[.agg #[.slice ad L.length cap, .int .i64 nx], .int .i64 er]) (by rw [results_cell_tmp rfl]; simp [asAddr, hld]) rfl ⟨_, rfl, q2, q3⟩
    · obtain ⟨b, o, rfl, hb1, hb2⟩ := H2.out.rows.at hy
      have c1 : w2.cell? ⟨b, o + X * 5 + 1, none⟩ = some (.int .i64 y.k) := hb2 1 _ rfl
      have hXl : X < L.length := (List.getElem?_eq_some_iff.1 hy).1
      have i2 : (0 : Int) ≤ (X : Int) := by omega
      have i3 : (X : Int) < (L.length : Int) := by omega
      have hA3 := hA2.out
      subst hZ
      by_cases c2 : decide (y.k = 4) ≠ decide (k = 4)
      · rw [if_pos ⟨hB, c2⟩] at hA3
        subst hA3
        have c5 : ((y.k == 4) == (k == 4)) = false := by
          show (decide (y.k = 4) == decide (k = 4)) = false
          exact beq_eq_false_iff_ne.2 c2
        have H4 := H2
        clear hb2 hA2 hX hy KP KW c2
        obtain ⟨q1, q2, q3⟩ := H4.out.ends
        go_wp2_with fail
        have hld := run_loadVar_row _ _ _ 29 _ _ _ q1 Tryz.underlying29 rfl (by kernel_rfl)
        exact bodyPost_ret (v := .tuple #[.agg #[.slice (some ⟨b, o, none⟩) L.length cap, .int .i64 nx], .int .i64 130]) (by rw [results_cell_tmp rfl]; simp [asAddr, hld]) rfl ⟨_, rfl, q2, q3⟩
      · rw [if_neg (fun h => c2 h.2)] at hA3
        have c5 : ((y.k == 4) == (k == 4)) = true := by
          show (decide (y.k = 4) == decide (k = 4)) = true
          rw [Classical.not_not.1 c2]; simp
        have HA4 : Hid (R = if er ≠ 0 then (L, nx, er) else if B = true ∧ k = 4 then (withD M ⟨s, k, m, false, y.id⟩, ny, 0) else (withD M ⟨s, k, m, false, ny⟩, ny + 1, 0)) := hA3
        clear hA3 hA2 hX hb2 c2
        go_upto_region 7 with (go_at_call 49; refine (KP.out _ H2.out.rows).mono ?_; rintro e w3 ⟨adm, cm, rfl, D3, C3, N3, Q3, k3⟩)
        have k4 : Below w2.heap.size w2 (w3.alloc (.cells #[.slice adm M.length cm, .int .i64 ny] 29)) := k3.alloc k3.size _
        have hg4 : w2.heap.size ≤ w3.heap.size := k3.size
        have q4 := heap_alloc_new w3 (.cells #[.slice adm M.length cm, .int .i64 ny] 29)
        have D4 := D3.below (below_box w3 (.cells #[.slice adm M.length cm, .int .i64 ny] 29))
        have E4 : M = [] ∨ ∃ b o, adm = some ⟨b, o, none⟩ ∧ b ≠ w3.heap.size := D3.size.imp id (fun ⟨b, o, e, h⟩ => ⟨b, o, e, by omega⟩)
        have z4 := size_box w3 (.cells #[.slice adm M.length cm, .int .i64 ny] 29)
        generalize w3.alloc _ = w4 at *
        generalize w3.heap.size = g4 at *
        have H4 : Hid (Pa w w4 (some ⟨b, o, none⟩) cap L nx) := H2.out.next k4
        clear m1 m2 f2 D3 k3 KP
        have m1 := cells_of H4.out.one
        have m2 := cells_of H4.out.two
        have f2 := froz_of H4.out.two
        have m4 := cells_of q4
        have f4 := froz_of q4
        clear c1 c5
        by_cases c3 : er = 0
        · have hR := HA4.out
          rw [if_neg (fun h => h c3)] at hR
          subst c3
          clear HA4
          by_cases c4 : k = 4
          · rw [if_pos ⟨hB, c4⟩] at hR
            subst hR
            have c6 : (k == 4) = true := by simpa using c4
            obtain ⟨b', o', e', hb3, hb4⟩ := H4.out.rows.at hy
            cases e'
            have c7 : w4.cell? ⟨b, o + X * 5 + 4, none⟩ = some (.int .i64 y.id) := hb4 4 _ rfl
            clear hb4 c4 hy
            have KX : Hid (Calls Tryz.prog 50 #[.agg #[.slice adm M.length cm, .int .i64 (ny)], .agg #[.string (bs s), .int .i64 k, .int .i64 m, .bool false, .int .i64 (y.id)]] w4 fun e w' => ∃ gd c, e = .returned (.agg #[.slice (some ⟨gd, 0, none⟩) (withD M ⟨s, k, m, false, y.id⟩).length c, .int .i64 (ny)]) ∧ Ds w' (some ⟨gd, 0, none⟩) (withD M ⟨s, k, m, false, y.id⟩) ∧ (withD M ⟨s, k, m, false, y.id⟩).length ≤ c ∧ w4.heap.size + 3 ≤ gd ∧ Below w4.heap.size w4 w') := KW.out w4 adm cm M (ny) ⟨s, k, m, false, y.id⟩ D4 hF1 N3
            generalize hM5 : withD M ⟨s, k, m, false, y.id⟩ = M5 at *
            have HM5 : Hid (withD M ⟨s, k, m, false, y.id⟩ = M5) := hM5
            clear hM5
            have l4 := H4.out.lt
            go_wp2_with (go_at_call 50; refine KX.out.mono ?_; rintro e w6 ⟨gd, c6, rfl, D6, C6, G6, k6⟩; have H6 : Hid (Pa w w6 (some ⟨b, o, none⟩) cap L nx) := H4.out.next k6; have d2 := cells_of H6.out.two; have g2 := froz_of H6.out.two)
            obtain ⟨q1, q2, q3⟩ := endD (ny := ny) H6.out.two D6 (by omega) C6 H6.out.bel
            have hld := run_loadVar_row _ _ _ 29 _ _ _ q1 Tryz.underlying29 rfl (by kernel_rfl)
            exact bodyPost_ret (v := .tuple #[.agg #[.slice (some ⟨gd, 0, none⟩) M5.length c6, .int .i64 (ny)], .int .i64 0]) (by rw [results_cell_tmp rfl]; simp [asAddr, hld]) rfl ⟨_, rfl, by show Dt _ _ (withD M ⟨s, k, m, false, y.id⟩) _; rw [HM5.out]; exact q2, q3⟩
          · rw [if_neg (fun h => c4 h.2)] at hR
            subst hR
            have c6 : (k == 4) = false := by simpa using c4
            clear c4 hy
            have q5 : (w4.setCell ⟨g4, 1, none⟩ (.int .i64 (ny + 1))).heap[g4]? = some (.cells #[.slice adm M.length cm, .int .i64 (ny + 1)] 29 (0, 0)) := (by have := heap_setCell_same w4 g4 1 _ _ (.int .i64 (ny + 1)) q4; rw [this]; rfl)
            have D5 : Hid (Ds (w4.setCell ⟨g4, 1, none⟩ (.int .i64 (ny + 1))) adm M) := D4.setG g4 1 E4 _
            have H5 : Hid (Pa w (w4.setCell ⟨g4, 1, none⟩ (.int .i64 (ny + 1))) (some ⟨b, o, none⟩) cap L nx) := H2.out.next (k4.setCell (by show _ ≤ g4; exact hg4) _)
            go_upto_region 13 with fail
            generalize w4.setCell ⟨g4, 1, none⟩ _ = w5 at *
            clear m1 m2 f2 m4 f4
            have m1 := cells_of H5.out.one
            have m2 := cells_of H5.out.two
            have f2 := froz_of H5.out.two
            have m5 := cells_of q5
            have KX : Hid (Calls Tryz.prog 50 #[.agg #[.slice adm M.length cm, .int .i64 (ny + 1)], .agg #[.string (bs s), .int .i64 k, .int .i64 m, .bool false, .int .i64 (ny)]] w5 fun e w' => ∃ gd c, e = .returned (.agg #[.slice (some ⟨gd, 0, none⟩) (withD M ⟨s, k, m, false, ny⟩).length c, .int .i64 (ny + 1)]) ∧ Ds w' (some ⟨gd, 0, none⟩) (withD M ⟨s, k, m, false, ny⟩) ∧ (withD M ⟨s, k, m, false, ny⟩).length ≤ c ∧ w5.heap.size + 3 ≤ gd ∧ Below w5.heap.size w5 w') := KW.out w5 adm cm M (ny + 1) ⟨s, k, m, false, ny⟩ D5.out hF1 N3
            generalize hM5 : withD M ⟨s, k, m, false, ny⟩ = M5 at *
            have HM5 : Hid (withD M ⟨s, k, m, false, ny⟩ = M5) := hM5
            clear hM5
            have l4 := H5.out.lt
            go_wp2_with (go_at_call 50; refine KX.out.mono ?_; rintro e w6 ⟨gd, c6, rfl, D6, C6, G6, k6⟩; have H6 : Hid (Pa w w6 (some ⟨b, o, none⟩) cap L nx) := H5.out.next k6; have d2 := cells_of H6.out.two; have g2 := froz_of H6.out.two)
            obtain ⟨q1, q2, q3⟩ := endD (ny := ny + 1) H6.out.two D6 (by omega) C6 H6.out.bel
            have hld := run_loadVar_row _ _ _ 29 _ _ _ q1 Tryz.underlying29 rfl (by kernel_rfl)
            exact bodyPost_ret (v := .tuple #[.agg #[.slice (some ⟨gd, 0, none⟩) M5.length c6, .int .i64 (ny + 1)], .int .i64 0]) (by rw [results_cell_tmp rfl]; simp [asAddr, hld]) rfl ⟨_, rfl, by show Dt _ _ (withD M ⟨s, k, m, false, ny⟩) _; rw [HM5.out]; exact q2, q3⟩
        · have hR := HA4.out
          rw [if_pos c3] at hR
          subst hR
          have c6 : (er != 0) = true := by simpa using c3
          clear HA4
          obtain ⟨q1, q2, q3⟩ := H4.out.ends
          go_wp2_with fail
          have hld := run_loadVar_row _ _ _ 29 _ _ _ q1 Tryz.underlying29 rfl (by kernel_rfl)
          exact bodyPost_ret (v := .tuple #[.agg #[.slice (some ⟨b, o, none⟩) L.length cap, .int .i64 nx], .int .i64 er]) (by rw [results_cell_tmp rfl]; simp [asAddr, hld]) rfl ⟨_, rfl, q2, q3⟩

end Go.Proofs.YtpgiibpalmhhlaaGreatDoor
