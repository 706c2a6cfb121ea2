/-
  Contract: pannierref15.More.
-/
import Derived.Test.YtgbfacbdagonaabD3
namespace Go.Proofs.Ytgbfacbdagonaab
open Go.RowKit
set_option linter.unusedVariables false
set_option linter.unusedSimpArgs false

theorem Ns.below {w w' : World} {ad : Option Addr} {ks : List Nat} (h : Ns w ad ks) (b : Below w.heap.size w w') : Ns w' ad ks := fun h0 => by
  obtain ⟨g, h1, h2, h3⟩ := h h0
  exact ⟨g, h1, Nat.lt_of_lt_of_le h2 b.size, fun j z hz => by rw [b.cell (p := ⟨g, j, none⟩) h2]; exact h3 j z hz⟩
theorem Ns.drewN {w : World} {ad : Option Addr} {ks : List Nat} (h : Ns w ad ks) (n : Nat) : Ns (w.drewN n) ad ks := h

theorem dg7 {n : Nat} (h : n < 9223372036854775808) : (dg n).length ≤ 7 := dg_len 7 n (by omega)

theorem norm_len {X : List Nat} {a b : Nat} (h : Norm X) (hv : val X = a * b) (ha : a < 9223372036854775808) (hb : b < 9223372036854775808) : X.length ≤ 100 := by
  by_cases c : X.length ≤ 100
  · exact c
  · exfalso
    have hne : X ≠ [] := by intro e; subst e; simp at c
    have h1 := val_ge X h.last hne
    have h2 : 1000 ^ 100 ≤ 1000 ^ (X.length - 1) := Nat.pow_le_pow_right (by omega) (by omega)
    have h3 : a * b ≤ 9223372036854775808 * 9223372036854775808 := Nat.mul_le_mul (by omega) (by omega)
    have h4 : 9223372036854775808 * 9223372036854775808 < 1000 ^ 100 := by decide
    omega

/-- two products, and what is reckoned of them -/
def Two (w W : World) (adx ady : Option Addr) (X Y : List Nat) : Prop := Ns W adx X ∧ Ns W ady Y ∧ Below w.heap.size w W

set_option maxHeartbeats 4000000 in
theorem more_w (a b c d : Nat) (ha : a < 9223372036854775808) (hb : b < 9223372036854775808) (hc : c < 9223372036854775808) (hd : d < 9223372036854775808) (w : World) :
    Calls Try.prog 10 #[.int .i64 (a : Int), .int .i64 (b : Int), .int .i64 (c : Int), .int .i64 (d : Int)] w fun e w' => e = .returned (.bool (decide (c * d < a * b))) ∧ Below w.heap.size w w' := by
  have KD : Hid (∀ (n : Nat) (W : World), n < 9223372036854775808 → Calls Try.prog 18 #[.int .i64 (n : Int)] W fun e w' => ∃ ad c, e = .returned (.slice ad (dg n).length c) ∧ Ns w' ad (dg n) ∧ Below W.heap.size W w') := fun n W h => digits_w n h W
  have KT : Hid (∀ (m n : Nat) (ada adb : Option Addr) (ca cb : Nat) (W : World), m < 9223372036854775808 → n < 9223372036854775808 → Ns W ada (dg m) → Ns W adb (dg n) → Calls Try.prog 17 #[.slice ada (dg m).length ca, .slice adb (dg n).length cb] W fun e w' => ∃ ad c R, e = .returned (.slice ad R.length c) ∧ Ns w' ad R ∧ Norm R ∧ val R = m * n ∧ Below W.heap.size W w') := fun m n ada adb ca cb W hm hn h1 h2 => by
    have := times_w (dg m) (dg n) ada adb ca cb W h1 h2 (dg7 hm) (dg7 hn) (dg_lt m) (dg_lt n)
    rwa [val_dg, val_dg] at this
  go_enter Try.func10, Try.ntmps10
  go_upto_region 2 with (first
    | (go_at_call 18; have dn := n3; refine (KD.out _ _ hd).mono ?_; rintro e w4 ⟨ad4, c4, rfl, n4, b4⟩)
    | (go_at_call 18; have dn := T1; refine (KD.out _ _ hc).mono ?_; rintro e w3 ⟨ad3, c3, rfl, n3, b3⟩)
    | (go_at_call 18; have dn := n1; refine (KD.out _ _ hb).mono ?_; rintro e w2 ⟨ad2, c2, rfl, n2, b2⟩)
    | (go_at_call 18; refine (KD.out _ _ ha).mono ?_; rintro e w1 ⟨ad1, c1, rfl, n1, b1⟩)
    | (go_at_call 17; have dn := T1; refine (KT.out _ _ _ _ _ _ _ hc hd (n3.below b4) n4).mono ?_; rintro e w6 ⟨ady, cy, Y, rfl, T2, N2, V2, b6⟩)
    | (go_at_call 17; refine (KT.out _ _ _ _ _ _ _ ha hb (n1.below b2) n2).mono ?_; rintro e w5 ⟨adx, cx, X, rfl, T1, N1, V1, b5⟩))
  have L1 := norm_len N1 V1 ha hb
  have L2 := norm_len N2 V2 hc hd
  have HT : Hid (Two w w6 adx ady X Y) := ⟨((T1.below b3).below b4).below b6, T2, (((b1.trans (b2.mono b1.size)).trans (b5.mono (by have := b1.size; have := b2.size; omega))).trans (b3.mono (by have := b1.size; have := b2.size; have := b5.size; omega))).trans ((b4.mono (by have := b1.size; have := b2.size; have := b5.size; have := b3.size; omega)).trans (b6.mono (by have := b1.size; have := b2.size; have := b5.size; have := b3.size; have := b4.size; omega)))⟩
  clear b1 b2 b3 b4 b5 b6 n1 n2 n3 n4 T1 T2 dn KD KT
  have HN1 : Hid (Norm X) := N1
  have HN2 : Hid (Norm Y) := N2
  have HVV : Hid (decide (val Y < val X) = decide (c * d < a * b)) := (by show _ = _; rw [V1, V2])
  clear N1 N2 V1 V2
  by_cases hl : X.length = Y.length
  · have HL : Hid (X.length = Y.length) := hl
    have ll : Y.length = X.length := hl.symm
    rw [ll]
    clear hl ll
    have wl : wrap64 ((X.length : Int) - 1) = (X.length : Int) - 1 := by unfold wrap64; omega
    have wl2 : IntKind.i64.wrap ((X.length : Int) - 1) = (X.length : Int) - 1 := by rw [IntKind.wrap_i64]; omega
    generalize hLX : X.length = L at *
    have HLX : Hid (X.length = L) := hLX
    clear hLX
    go_wp2_with fail
    go_loopw [11] (fun x wr => ∃ (m : Nat), x = .int .i64 ((m : Int) - 1) ∧ m ≤ L ∧ Hid (Two w wr adx ady X Y) ∧ Hid (X.drop m = Y.drop m)) (fun x _ => (intOf x + 1).toNat)
    case atStart => exact ⟨L, rfl, Nat.le_refl _, HT, by show _ = _; rw [List.drop_eq_nil_of_le (by rw [HLX.out]; exact Nat.le_refl _), List.drop_eq_nil_of_le (by rw [← HL.out]; exact Nat.le_refl _)]⟩
    case round =>
      obtain ⟨m, rfl, hm, HT2, HD⟩ := hrel
      by_cases hm0 : m = 0
      · subst hm0
        have hxy : X = Y := by have := HD.out; rwa [List.drop_zero, List.drop_zero] at this
        have HF : Hid (false = decide (c * d < a * b)) := (by show _ = _; rw [← HVV.out, hxy, decide_eq_false (Nat.lt_irrefl _)])
        go_wp2_with fail
        go_ret
        exact ⟨by rw [← HF.out]; rfl, HT2.out.2.2⟩
      · obtain ⟨j, rfl⟩ : ∃ j, m = j + 1 := ⟨m - 1, by omega⟩
        have hj1 : j < X.length := (by rw [HLX.out]; omega)
        have hj2 : j < Y.length := (by rw [← HL.out]; omega)
        obtain ⟨gx, rfl, hgx, cx'⟩ := HT2.out.1 (by omega)
        obtain ⟨gy, rfl, hgy, cy'⟩ := HT2.out.2.1 (by omega)
        have c1 := cx' j _ (gD_some hj1)
        have c2 := cy' j _ (gD_some hj2)
        have ej : (((j + 1 : Nat) : Int) - 1) = (j : Int) := by omega
        rw [ej]
        have i1 : (0 : Int) ≤ (j : Int) := by omega
        have i2 : (j : Int) < (L : Int) := by omega
        have HQ : Hid (gD X j ≠ gD Y j → decide (gD Y j < gD X j) = decide (c * d < a * b)) := fun h => (more_at HN1.out HN2.out (HLX.out.trans HL.out) j hj1 HD.out h).trans HVV.out
        have HE : Hid (gD X j = gD Y j → X.drop j = Y.drop j) := fun h => drop_down j hj1 hj2 HD.out h
        clear cx' cy' ej hj1 hj2 HT
        generalize gD X j = p at *
        generalize gD Y j = q at *
        have HT3 : Hid (∀ n, Two w (wr.drewN n) (some ⟨gx, 0, none⟩) (some ⟨gy, 0, none⟩) X Y) := fun n => ⟨HT2.out.1.drewN n, HT2.out.2.1.drewN n, below_drewN HT2.out.2.2 n⟩
        by_cases hpq : p = q
        · subst hpq
          have wj : wrap64 ((j : Int) - 1) = (j : Int) - 1 := by unfold wrap64; omega
          go_wp2_with fail
          go_quiet (fail)
          have HT4 : Hid (Two w (wr.drewN nq) (some ⟨gx, 0, none⟩) (some ⟨gy, 0, none⟩) X Y) := HT3.out nq
          clear HT3 HT2 c1 c2 HQ
          generalize wr.drewN nq = w7 at *
          have HE2 : Hid (X.drop j = Y.drop j) := HE.out (by first | rfl | trivial)
          clear HE
          go_wp2_with fail
          go_roundw
          case rel => exact ⟨j, rfl, by omega, HT4, HE2⟩
          case measure => simp [intOf]
        · have hpi : ¬ (p : Int) = (q : Int) := by omega
          have HQ2 : Hid (decide (q < p) = decide (c * d < a * b)) := HQ.out hpq
          go_wp2_with fail
          go_quiet (fail)
          have HT4 : Hid (Two w (wr.drewN nq) (some ⟨gx, 0, none⟩) (some ⟨gy, 0, none⟩) X Y) := HT3.out nq
          have d1 : (wr.drewN nq).cell? ⟨gx, j, none⟩ = some (.int .i64 (p : Int)) := c1
          have d2 : (wr.drewN nq).cell? ⟨gy, j, none⟩ = some (.int .i64 (q : Int)) := c2
          clear HT3 HT2 c1 c2 HQ HE
          generalize wr.drewN nq = w7 at *
          have HT5 : Hid (∀ n, Two w (w7.drewN n) (some ⟨gx, 0, none⟩) (some ⟨gy, 0, none⟩) X Y) := fun n => ⟨HT4.out.1.drewN n, HT4.out.2.1.drewN n, below_drewN HT4.out.2.2 n⟩
          go_wp2_with fail
          go_quiet (fail)
          go_wp2_with fail
          go_ret
          refine ⟨?_, (HT5.out _).2.2⟩
          rw [← HQ2.out]
          first | rfl | simp
  · have hli : ¬ (X.length : Int) = (Y.length : Int) := by omega
    have HQ := more_len HN1.out HN2.out hl
    rw [HVV.out] at HQ
    have HQ2 : Hid (decide (Y.length < X.length) = decide (c * d < a * b)) := HQ
    clear HQ
    go_wp2_with fail
    go_ret
    refine ⟨?_, HT.out.2.2⟩
    rw [← HQ2.out]
    first | rfl | simp

end Go.Proofs.Ytgbfacbdagonaab
