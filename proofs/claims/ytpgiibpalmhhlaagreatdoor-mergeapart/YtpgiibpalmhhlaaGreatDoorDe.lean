/-
  Contract: parents.
-/
import Derived.Test.YtpgiibpalmhhlaaGreatDoorDd
import Derived.Test.YtpgiibpalmhhlaaGreatDoorRj
import Derived.Deep.CutBlock
namespace Go.Proofs.YtpgiibpalmhhlaaGreatDoor
open Go.RowKit
open Go.Lib hiding intOf
set_option linter.unusedVariables false
set_option linter.unusedSimpArgs false

set_option maxRecDepth 20000 in
theorem run_highS (w : World) (a : Option Addr) (n cap c : Nat) (h : c ≤ cap) : (Instr.sliceAt 64 (.slice a n cap) none (some (.int .i64 (c : Int))) none).run Tryz.prog w = .ok (.slice a c cap) w := by
  rw [run_sliceAt_slice w 64 _ _ _ _ Tryz.underlying64]
  have hi : (Tryz.prog.info? 9).map (·.size) = some 1 := by kernel_rfl
  cases hq : Tryz.prog.info? 9 with
  | none => simp [hq] at hi
  | some i =>
    have hb : (Instr.sliceBound (.int .i64 (c : Int)) cap .sliceAcap).run Tryz.prog w = .ok c w := by
      have := run_sliceBound (P := Tryz.prog) w .i64 (c : Int) cap .sliceAcap (by omega) (by omega)
      simpa using this
    cases a <;> simp [Instr.slice, run_underlying Tryz.underlying64, Instr.sliceBounds, sizeOf, typeInfo, hq, hb, Addr.add]

theorem Sl.take {w : World} {ad : Option Addr} {ps : List (List UInt8)} (h : Sl w ad ps) (n : Nat) : Sl w ad (ps.take n) := by
  rcases h with h | ⟨b, o, h1, h2, h3⟩
  · left; rw [h]; simp
  · refine .inr ⟨b, o, h1, h2, fun i x hx => h3 i x ?_⟩
    rw [List.getElem?_take] at hx
    split at hx
    · exact hx
    · cases hx

theorem rsplit_f (l : List UInt8) (hl : l.length ≤ 5000) (w : World) :
    Calls Tryz.prog 69 #[.string (bs l)] w fun e w' => ∃ ad c, e = .returned (.slice ad (parts l).length c) ∧ (parts l).length ≤ c ∧ c ≤ 9223372036854775807 ∧ Hid (Sl w' ad (parts l)) ∧ Below w.heap.size w w' ∧ Hid (parts l = [] ∨ ∃ b o, ad = some ⟨b, o, none⟩ ∧ w.heap.size ≤ b) := by
  refine (rsplit_own l hl w).mono fun e w' ⟨v, he, ho, hb⟩ => ?_
  obtain ⟨ad, c, rfl, hc, hm, hs⟩ := own_sl ho
  refine ⟨ad, c, he, hc, hm, hs, hb, ?_⟩
  rcases ho.2 with ⟨q1, q2⟩ | ⟨g, cp, cur, q1, q2, _⟩
  · left
    exact List.length_eq_zero_iff.1 q2
  · right
    cases q1
    exact ⟨g, 0, rfl, q2⟩
theorem Sl.set1 {w : World} {ad : Option Addr} {ps : List (List UInt8)} (h : Sl w ad ps) (g j : Nat) (hf : ps = [] ∨ ∃ b o, ad = some ⟨b, o, none⟩ ∧ b ≠ g) (v : Value) : Sl (w.setCell ⟨g, j, none⟩ v) ad ps := by
  rcases h with h | ⟨b, o, h1, h2, h3⟩
  · exact .inl h
  · rcases hf with hf | ⟨b', o', e, hne⟩
    · exact .inl hf
    · rw [h1] at e; cases e
      refine .inr ⟨b, o, h1, by simpa using h2, fun i x hx => ?_⟩
      rw [World.cell?_setCell_far _ _ _ _ (by show g ≠ b; omega)]
      exact h3 i x hx

/-- parents, on its way -/
structure Pa (w wr : World) (ad : Option Addr) (cap : Nat) (L : List Td) (nx : Int) : Prop where
  one : wr.heap[w.heap.size]? = some (.cells #[.slice ad L.length cap, .int .i64 nx] 29 (0, 0))
  two : wr.heap[w.heap.size + 1]? = some (.cells #[.slice none 0 0, .int .i64 0] 29 (0, 0))
  rows : Ds wr ad L
  far : L = [] ∨ ∃ b o, ad = some ⟨b, o, none⟩ ∧ (b < w.heap.size ∨ w.heap.size + 2 ≤ b)
  le : L.length ≤ cap
  nil : ad = none → cap = 0
  bel : Below w.heap.size w wr
  lt : w.heap.size + 2 ≤ wr.heap.size
theorem Pa.next {w wr w' : World} {ad : Option Addr} {cap : Nat} {L : List Td} {nx : Int} (h : Pa w wr ad cap L nx) (k : Below wr.heap.size wr w') : Pa w w' ad cap L nx := by
  have := h.lt
  exact ⟨(k.block _ (by omega)).trans h.one, (k.block _ (by omega)).trans h.two, h.rows.below k, h.far, h.le, h.nil, h.bel.trans (k.mono (by omega)), Nat.le_trans h.lt k.size⟩
theorem Pa.mk0 (w : World) (ad : Option Addr) (cap : Nat) (L : List Td) (nx : Int) (hr : Ds w ad L) (hl : L.length ≤ cap) (hn : ad = none → cap = 0) : Pa w ((w.alloc (.cells #[.slice ad L.length cap, .int .i64 nx] 29)).alloc (.cells #[.slice none 0 0, .int .i64 0] 29)) ad cap L nx := by
  have h := Two.mk0 w #[.slice ad L.length cap, .int .i64 nx] #[.slice none 0 0, .int .i64 0] 29 29
  refine ⟨h.1, h.2.1, hr.below h.2.2.1, ?_, hl, hn, h.2.2.1, h.2.2.2⟩
  rcases hr with e | ⟨b, o, e, hb, _⟩
  · exact .inl e
  · exact .inr ⟨b, o, e, .inl hb⟩
theorem Ds.setG {w : World} {ad : Option Addr} {L : List Td} (h : Ds w ad L) (g j : Nat) (hne : L = [] ∨ ∃ b o, ad = some ⟨b, o, none⟩ ∧ b ≠ g) (v : Value) : Ds (w.setCell ⟨g, j, none⟩ v) ad L := by
  rcases h with h | ⟨b, o, h1, h2, h3⟩
  · exact .inl h
  · rcases hne with hne | ⟨b', o', e, hne⟩
    · exact .inl hne
    · rw [h1] at e
      cases e
      refine .inr ⟨b, o, h1, by simpa using h2, fun i u hu => ?_⟩
      rw [World.cell?_setCell_far _ _ _ _ (by show g ≠ b; omega)]
      exact h3 i u hu
theorem Ds.size {w : World} {ad : Option Addr} {L : List Td} (h : Ds w ad L) : L = [] ∨ ∃ b o, ad = some ⟨b, o, none⟩ ∧ b < w.heap.size := by
  rcases h with h | ⟨b, o, h1, h2, h3⟩
  · exact .inl h
  · exact .inr ⟨b, o, h1, h2⟩
/-- a new thing is laid, and the number rises -/
theorem Pa.step {w wr w' : World} {ad : Option Addr} {cap : Nat} {L : List Td} {nx : Int} (h : Pa w wr ad cap L nx) (k : Below wr.heap.size wr w') {gd c : Nat} {M : List Td} (hM : Ds w' (some ⟨gd, 0, none⟩) M) (hg : wr.heap.size ≤ gd) (hc : M.length ≤ c) (ny : Int) :
    Pa w (((w'.setCell ⟨w.heap.size, 0, none⟩ (.slice (some ⟨gd, 0, none⟩) M.length c)).setCell ⟨w.heap.size, 1, none⟩ (.int .i64 nx)).setCell ⟨w.heap.size, 1, none⟩ (.int .i64 ny)) (some ⟨gd, 0, none⟩) c M ny := by
  have hlt := h.lt
  have h' := h.next k
  have d : gd ≠ w.heap.size := by omega
  refine ⟨?_, ?_, ((hM.set1 _ _ d _).set1 _ _ d _).set1 _ _ d _, .inr ⟨gd, 0, rfl, .inr (by omega)⟩, hc, (fun e => by cases e), ((h'.bel.setCell (by show _ ≤ w.heap.size; omega) _).setCell (by show _ ≤ w.heap.size; omega) _).setCell (by show _ ≤ w.heap.size; omega) _, by simpa using h'.lt⟩
  · have e1 := two_set h'.one (.slice (some ⟨gd, 0, none⟩) M.length c) (.int .i64 nx)
    have := heap_setCell_same _ w.heap.size 1 _ _ (.int .i64 ny) e1
    rw [this]; rfl
  · rw [Below.heap_setCell _ _ _ _ (by show w.heap.size + 1 ≠ w.heap.size; omega), Below.heap_setCell _ _ _ _ (by show w.heap.size + 1 ≠ w.heap.size; omega), Below.heap_setCell _ _ _ _ (by show w.heap.size + 1 ≠ w.heap.size; omega)]
    exact h'.two
/-- what is answered -/
theorem Pa.ends {w wr : World} {ad : Option Addr} {cap : Nat} {L : List Td} {nx : Int} (h : Pa w wr ad cap L nx) :
    ((wr.setCell ⟨w.heap.size + 1, 0, none⟩ (.slice ad L.length cap)).setCell ⟨w.heap.size + 1, 1, none⟩ (.int .i64 nx)).heap[w.heap.size + 1]? = some (.cells #[.slice ad L.length cap, .int .i64 nx] 29 (0, 0)) ∧
      Dt ((wr.setCell ⟨w.heap.size + 1, 0, none⟩ (.slice ad L.length cap)).setCell ⟨w.heap.size + 1, 1, none⟩ (.int .i64 nx)) (.agg #[.slice ad L.length cap, .int .i64 nx]) L nx ∧
      Below w.heap.size w ((wr.setCell ⟨w.heap.size + 1, 0, none⟩ (.slice ad L.length cap)).setCell ⟨w.heap.size + 1, 1, none⟩ (.int .i64 nx)) := by
  have hf : L = [] ∨ ∃ b o, ad = some ⟨b, o, none⟩ ∧ b ≠ w.heap.size + 1 := by
    rcases h.far with e | ⟨b, o, e, hb⟩
    · exact .inl e
    · exact .inr ⟨b, o, e, by omega⟩
  exact ⟨two_set h.two _ _, ⟨ad, cap, rfl, (h.rows.setG _ _ hf _).setG _ _ hf _, h.le, h.nil⟩, (h.bel.setCell (by show _ ≤ w.heap.size + 1; omega) _).setCell (by show _ ≤ w.heap.size + 1; omega) _⟩

theorem dt_ds {w : World} {ad : Option Addr} {n c : Nat} {nx ny : Int} {L : List Td} (h : Dt w (.agg #[.slice ad n c, .int .i64 nx]) L ny) : Ds w ad L := by
  obtain ⟨a, b, e, h1, _⟩ := h
  cases e
  exact h1
theorem dt_le {w : World} {ad : Option Addr} {n c : Nat} {nx ny : Int} {L : List Td} (h : Dt w (.agg #[.slice ad n c, .int .i64 nx]) L ny) : L.length ≤ c := by
  obtain ⟨a, b, e, _, h1, _⟩ := h
  cases e
  exact h1
theorem dt_nil {w : World} {ad : Option Addr} {n c : Nat} {nx ny : Int} {L : List Td} (h : Dt w (.agg #[.slice ad n c, .int .i64 nx]) L ny) : ad = none → c = 0 := by
  obtain ⟨a, b, e, _, _, h1⟩ := h
  cases e
  exact h1
theorem Pa.setG {w W : World} {ad : Option Addr} {cap : Nat} {L : List Td} {nx : Int} (h : Pa w W ad cap L nx) (g j : Nat) (v : Value) (hg : w.heap.size + 2 ≤ g) (hf : L = [] ∨ ∃ b o, ad = some ⟨b, o, none⟩ ∧ b ≠ g) : Pa w (W.setCell ⟨g, j, none⟩ v) ad cap L nx :=
  ⟨(Below.heap_setCell _ _ _ _ (by show w.heap.size ≠ g; omega)).trans h.one, (Below.heap_setCell _ _ _ _ (by show w.heap.size + 1 ≠ g; omega)).trans h.two, h.rows.setG g j hf v, h.far, h.le, h.nil, h.bel.setCell (by show _ ≤ g; omega) _, by simpa using h.lt⟩

theorem parD_cons (u : List UInt8) (us : List (List UInt8)) (W : List Td) (nx : Int) : parD (u :: us) W nx = if fdD W u then (if (atD W u).k = 4 then parD us W nx else (W, nx, 130)) else parD us (withD W ⟨u, 4, 0, true, nx⟩) (nx + 1) := rfl

theorem jn_le_split (ps : List (List UInt8)) (h : ∀ p ∈ ps, p ≠ []) : ps.length ≤ (jn ps).length := by
  induction ps with
  | nil => simp
  | cons a r ih =>
    have ha : 0 < a.length := List.length_pos_iff.2 (h a (List.mem_cons_self ..))
    have hr := ih fun p hp => h p (List.mem_cons_of_mem _ hp)
    by_cases e : r = []
    · subst e; rw [jn_one]; simp; omega
    · have := jn_append [a] r (by simp) e
      rw [List.singleton_append] at this
      rw [this, jn_one, List.length_append, List.length_cons, List.length_cons]
      omega

set_option maxRecDepth 20000 in
set_option maxHeartbeats 4000000 in
theorem parents_d (ad : Option Addr) (cap : Nat) (nx : Int) (L : List Td) (s : List UInt8) (w : World) (hr : Ds w ad L) (hcap : L.length ≤ cap) (hnil : ad = none → cap = 0) (hl : L.length ≤ 800000) (hnx : 0 ≤ nx ∧ nx ≤ 900000000000) (hs : s.length ≤ 1000) (hps : (parts s).length ≤ 1001) (hj : (jn (parts s)).length ≤ 2000) :
    Calls Tryz.prog 49 #[.agg #[.slice ad L.length cap, .int .i64 nx], .string (bs s)] w fun e w' => ∃ ad' c', e = .returned (.tuple #[.agg #[.slice ad' (parD (upR (parts s) 1) L nx).1.length c', .int .i64 (parD (upR (parts s) 1) L nx).2.1], .int .i64 (parD (upR (parts s) 1) L nx).2.2]) ∧ Ds w' ad' (parD (upR (parts s) 1) L nx).1 ∧ (parD (upR (parts s) 1) L nx).1.length ≤ c' ∧ (ad' = none → c' = 0) ∧ Hid (ad' = ad ∨ ∃ gd, ad' = some ⟨gd, 0, none⟩ ∧ w.heap.size ≤ gd) ∧ Below w.heap.size w w' := by
  have KS : Hid (∀ W, Calls Tryz.prog 69 #[.string (bs s)] W fun e w' => ∃ ad c, e = .returned (.slice ad (parts s).length c) ∧ (parts s).length ≤ c ∧ c ≤ 9223372036854775807 ∧ Hid (Sl w' ad (parts s)) ∧ Below W.heap.size W w' ∧ Hid (parts s = [] ∨ ∃ b o, ad = some ⟨b, o, none⟩ ∧ W.heap.size ≤ b)) := fun W => rsplit_f s (by omega) W
  have KJ : Hid (∀ W adp c n, Sl W adp (parts s) → (parts s).length ≤ c → n ≤ (parts s).length → Calls Tryz.prog 70 #[.slice adp n c] W fun e w' => e = .returned (.string (bs (jn ((parts s).take n)))) ∧ w' = W) := fun W adp c n h1 h2 h3 => by
    have := rjoin_w adp c ((parts s).take n) W (h1.take n) (by rw [List.length_take]; omega) (by rw [List.length_take]; omega) (Nat.le_trans (jn_take_le _ _) (by omega))
    rw [List.length_take, Nat.min_eq_left h3] at this
    exact this
  have KF : Hid (∀ W ad cap (M : List Td) ny u, Ds W ad M → M.length ≤ 900000 → Calls Tryz.prog 13 #[.agg #[.slice ad M.length cap, .int .i64 ny], .string (bs u)] W fun e w' => e = .returned (.int .i64 (dz M u)) ∧ Below W.heap.size W w') := fun W ad cap M ny u h1 h2 => find_d ad cap ny M u W h1 (by omega)
  have KW : Hid (∀ W ad cap (M : List Td) ny (x : Td), Ds W ad M → M.length ≤ 900000 → (ad = none → cap = 0) → Calls Tryz.prog 50 #[.agg #[.slice ad M.length cap, .int .i64 ny], .agg #[.string (bs x.p), .int .i64 x.k, .int .i64 x.m, .bool x.made, .int .i64 x.id]] W fun e w' => ∃ gd c, e = .returned (.agg #[.slice (some ⟨gd, 0, none⟩) (withD M x).length c, .int .i64 ny]) ∧ Ds w' (some ⟨gd, 0, none⟩) (withD M x) ∧ (withD M x).length ≤ c ∧ W.heap.size + 3 ≤ gd ∧ Below W.heap.size W w') := fun W ad cap M ny x h1 h2 h3 => with_d ad cap ny M x W h1 h2 h3
  have H0 := Pa.mk0 w ad cap L nx hr hcap hnil
  clear hj
  generalize parts s = ps at *
  generalize hF : parD (upR ps 1) L nx = F at *
  have HF : Hid (parD (upR ps 1) L nx = F) := hF
  clear hF hr
  generalize hN : ps.length = N at *
  have HN : Hid (ps.length = N) := hN
  clear hN
  go_enter Tryz.func49, Tryz.ntmps49
  go_upto_region 1 with fail
  generalize (w.alloc _).alloc _ = w0 at *
  go_upto_region 2 with (go_at_call 69; refine (KS.out _).mono ?_; rintro e w1 ⟨adp, cp, rfl, hc1, hc2, S1, k1, F1⟩)
  have F2 : Hid (ps = [] ∨ ∃ b o, adp = some ⟨b, o, none⟩ ∧ b ≠ w.heap.size) := F1.out.imp id (fun ⟨b, o, e, h⟩ => ⟨b, o, e, by have := H0.lt; omega⟩)
  clear F1
  have H1 : Hid (Pa w w1 ad cap L nx) := H0.next k1
  clear H0 k1 KS
  go_wp2_with fail
  go_loopw [7] (fun x7 wr => ∃ (n : Nat) (adc : Option Addr) (capc : Nat) (M : List Td) (ny : Int), 1 ≤ n ∧ (n ≤ N ∨ n = 1) ∧ x7 = .int .i64 (n : Int) ∧ Hid (parD (upR ps n) M ny = F) ∧ M.length ≤ L.length + n ∧ 0 ≤ ny ∧ ny ≤ nx + (n : Int) ∧ Hid (Pa w wr adc capc M ny) ∧ Hid (Sl wr adp ps) ∧ Hid (adc = ad ∨ ∃ gd, adc = some ⟨gd, 0, none⟩ ∧ w.heap.size ≤ gd)) (fun x7 _ => N - (intOf x7).toNat)
  case atStart => exact ⟨1, ad, cap, L, nx, by omega, by omega, rfl, HF, by omega, hnx.1, by omega, H1, S1, .inl rfl⟩
  case round =>
    obtain ⟨n, adc, capc, M, ny, hn1, hn2, rfl, HP, hM, hy0, hy1, HA, S2, HQ⟩ := hrel
    clear H1 S1 HF
    have m1 := cells_of HA.out.one
    by_cases hlt : n < N
    · have hlt2 : n < ps.length := by rw [HN.out]; exact hlt
      have HP2 : Hid (parD (jn (ps.take n) :: upR ps (n + 1)) M ny = F) := (by show _ = _; rw [← upR_cons hlt2]; exact HP.out)
      have hsl := fun W => run_highS W adp N cp n (by omega)
      have hMl : M.length ≤ 900000 := by omega
      have KJ2 : Hid (Calls Tryz.prog 70 #[.slice adp n cp] wr fun e w' => e = .returned (.string (bs (jn (ps.take n)))) ∧ w' = wr) := KJ.out wr adp cp n S2.out hc1 (by omega)
      generalize jn (ps.take n) = u at *
      clear HP
      go_upto_region 7 with (first
        | (go_at_call 70; refine KJ2.out.mono ?_; rintro e wj ⟨rfl, hwj⟩; rw [hwj])
        | (go_at_call 13; refine (KF.out _ _ _ _ _ _ HA.out.rows hMl).mono ?_; rintro e w2 ⟨rfl, k2⟩))
      have H2 : Hid (Pa w w2 adc capc M ny) := HA.out.next k2
      have S3 : Hid (Sl w2 adp ps) := S2.out.below k2
      clear m1 HA S2 hsl KJ2 k2
      have m1 := cells_of H2.out.one
      have m2 := cells_of H2.out.two
      have f1 := froz_of H2.out.one
      have f2 := froz_of H2.out.two
      by_cases hf : fdD M u = true
      · obtain ⟨z1, z2⟩ := dz_yes hf
        obtain ⟨x, hx, hxp, hxa⟩ := atD_get hf
        obtain ⟨b, o, rfl, hb1, hb2⟩ := H2.out.rows.at hx
        have c1 : w2.cell? ⟨b, o + dx M u * 5 + 1, none⟩ = some (.int .i64 x.k) := hb2 1 _ rfl
        have i2 : (0 : Int) ≤ (dx M u : Int) := by omega
        have i3 : (dx M u : Int) < (M.length : Int) := by omega
        have i4 : ¬ (dx M u : Int) < 0 := by omega
        have HP3 := HP2.out
        rw [parD_cons, if_pos hf, hxa] at HP3
        rw [z1]
        generalize dx M u = X at *
        clear hb2 hx hxp hxa hf z1 HP2
        by_cases c4 : x.k = 4
        · rw [if_pos c4] at HP3
          have HP4 : Hid (parD (upR ps (n + 1)) M ny = F) := HP3
          have c5 : (x.k != 4) = false := by simpa using c4
          clear HP3 c4
          go_wp2_with fail
          go_roundw
          case rel => exact ⟨n + 1, _, capc, M, ny, by omega, by omega, by simp, HP4, by omega, hy0, by omega, H2, S3, HQ⟩
          case measure => simp [intOf]; omega
        · rw [if_neg c4] at HP3
          have c5 : (x.k != 4) = true := by simpa using c4
          have HP4 : Hid (F = (M, ny, 130)) := HP3.symm
          clear HP3 c4
          go_wp2_with fail
          obtain ⟨q1, q2, q3⟩ := H2.out.ends
          have hld := run_loadVar_row _ _ _ 29 _ _ _ q1 Tryz.underlying29 rfl (by kernel_rfl)
          have HP5 := HP4.out
          clear HP4
          subst HP5
          exact bodyPost_ret (v := .tuple #[.agg #[.slice (some ⟨b, o, none⟩) M.length capc, .int .i64 ny], .int .i64 130]) (by rw [results_cell_tmp rfl]; simp [asAddr, hld]) rfl ⟨_, _, rfl, dt_ds q2, dt_le q2, dt_nil q2, HQ, q3⟩
      · have hf : fdD M u = false := by simpa using hf
        have z1 := dz_no hf
        have HP3 := HP2.out
        rw [parD_cons, if_neg (by rw [hf]; simp)] at HP3
        have HP4 : Hid (parD (upR ps (n + 1)) (withD M ⟨u, 4, 0, true, ny⟩) (ny + 1) = F) := HP3
        have hM2 := withD_len M ⟨u, 4, 0, true, ny⟩
        have hw1 : wrap64 (ny + 1) = ny + 1 := by unfold wrap64; omega
        have KW2 : Hid (Calls Tryz.prog 50 #[.agg #[.slice adc M.length capc, .int .i64 ny], .agg #[.string (bs u), .int .i64 4, .int .i64 0, .bool true, .int .i64 ny]] w2 fun e w' => ∃ gd c, e = .returned (.agg #[.slice (some ⟨gd, 0, none⟩) (withD M ⟨u, 4, 0, true, ny⟩).length c, .int .i64 ny]) ∧ Ds w' (some ⟨gd, 0, none⟩) (withD M ⟨u, 4, 0, true, ny⟩) ∧ (withD M ⟨u, 4, 0, true, ny⟩).length ≤ c ∧ w2.heap.size + 3 ≤ gd ∧ Below w2.heap.size w2 w') := KW.out w2 adc capc M ny ⟨u, 4, 0, true, ny⟩ H2.out.rows hMl H2.out.nil
        rw [z1]
        generalize withD M ⟨u, 4, 0, true, ny⟩ = M2 at *
        clear HP3 hf z1 HP2
        go_upto_region 4 with (go_at_call 50; refine KW2.out.mono ?_; rintro e w3 ⟨gd, c, rfl, D3, C3, G3, k3⟩; have H3 : Hid (Pa w w3 adc capc M ny) := H2.out.next k3; have n1 := cells_of H3.out.one; have g1 := froz_of H3.out.one)
        have H4 := H2.out.step k3 D3 (by omega) C3 (ny + 1)
        go_wp2_with fail
        go_roundw
        case rel => exact ⟨n + 1, _, c, M2, ny + 1, by omega, by omega, by simp, HP4, by omega, by omega, by omega, H4, (((S3.out.below k3).set1 _ _ F2.out _).set1 _ _ F2.out _).set1 _ _ F2.out _, .inr ⟨gd, rfl, by have := H2.out.lt; omega⟩⟩
        case measure => simp [intOf]; omega
    · have HP2 := HP.out
      rw [upR_nil (by rw [HN.out]; exact hlt)] at HP2
      have HP3 : Hid (F = (M, ny, 0)) := HP2.symm
      have m2 := cells_of HA.out.two
      have f2 := froz_of HA.out.two
      obtain ⟨q1, q2, q3⟩ := HA.out.ends
      clear HP2 HP
      go_wp2_with fail
      have hld := run_loadVar_row _ _ _ 29 _ _ _ q1 Tryz.underlying29 rfl (by kernel_rfl)
      have HP5 := HP3.out
      clear HP3
      subst HP5
      exact bodyPost_ret (v := .tuple #[.agg #[.slice adc M.length capc, .int .i64 ny], .int .i64 0]) (by rw [results_cell_tmp rfl]; simp [asAddr, hld]) rfl ⟨_, _, rfl, dt_ds q2, dt_le q2, dt_nil q2, HQ, q3⟩

end Go.Proofs.YtpgiibpalmhhlaaGreatDoor
