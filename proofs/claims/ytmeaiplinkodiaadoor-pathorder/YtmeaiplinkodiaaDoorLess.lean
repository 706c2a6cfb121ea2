/-
  The document's Less.
-/
import Derived.Test.YtmeaiplinkodiaaDoorOrd
import Derived.Test.YtmeaiplinkodiaaDoorRef2
namespace Go.Proofs.YtmeaiplinkodiaaDoor
open Go.RowKit
open Go.Lib hiding intOf
set_option linter.unusedVariables false
set_option linter.unusedSimpArgs false

theorem Sl.at {w : World} {ad : Option Addr} {ps : List (List UInt8)} (h : Sl w ad ps) (i : Nat) (x : List UInt8) (hx : ps[i]? = some x) : ∃ b o, ad = some ⟨b, o, none⟩ ∧ w.cell? ⟨b, o + i, none⟩ = some (.string (bs x)) := by
  rcases h with h | ⟨b, o, h1, h2, h3⟩
  · rw [h] at hx; simp at hx
  · exact ⟨b, o, h1, h3 i x hx⟩

theorem lessP_end (x y : List (List UInt8)) (i : Nat) (hx : i ≤ x.length) (hy : i ≤ y.length) (h : ¬ (i < x.length ∧ i < y.length)) : lessP (x.drop i) (y.drop i) = decide (x.length < y.length) := by
  by_cases h1 : i < x.length
  · have : y.drop i = [] := List.drop_of_length_le (by omega)
    rw [this, List.drop_eq_getElem_cons h1]
    show false = _
    rw [decide_eq_false (by omega)]
  · have : x.drop i = [] := List.drop_of_length_le (by omega)
    rw [this]
    by_cases h2 : i < y.length
    · rw [List.drop_eq_getElem_cons h2]
      show true = _
      rw [decide_eq_true (by omega)]
    · rw [List.drop_of_length_le (by omega)]
      show false = _
      rw [decide_eq_false (by omega)]

theorem ltB_less : ∀ x y : List UInt8, Op.bytesLess x y = ltB x y
  | [], [] => rfl
  | [], _ :: _ => rfl
  | _ :: _, [] => rfl
  | a :: x, b :: y => by
    rw [Op.bytesLess, ltB, ltB_less x y]
    by_cases h : a = b
    · subst h; simp
    · rw [if_neg h]
      have : (a == b) = false := beq_eq_false_iff_ne.2 h
      rw [this, Bool.false_and, Bool.or_false]
      exact decide_eq_decide.2 UInt8.lt_iff_toNat_lt

set_option maxHeartbeats 4000000 in
theorem less_w (l m : List UInt8) (hl : l.length ≤ 5000) (hl2 : m.length ≤ 5000) (w : World) :
    Calls Tryd.prog 19 #[.string (bs l), .string (bs m)] w fun e w' => e = .returned (.bool (lessP (parts l) (parts m))) ∧ Below w.heap.size w w' := by
  have K1 : Hid (∀ W, Calls Tryd.prog 23 #[.string (bs l)] W fun e w' => ∃ ad c, e = .returned (.slice ad (parts l).length c) ∧ (parts l).length ≤ c ∧ c ≤ 9223372036854775807 ∧ Hid (Sl w' ad (parts l)) ∧ Below W.heap.size W w') := fun W => rsplit_w l (by omega) W
  have K2 : Hid (∀ W, Calls Tryd.prog 23 #[.string (bs m)] W fun e w' => ∃ ad c, e = .returned (.slice ad (parts m).length c) ∧ (parts m).length ≤ c ∧ c ≤ 9223372036854775807 ∧ Hid (Sl w' ad (parts m)) ∧ Below W.heap.size W w') := fun W => rsplit_w m (by omega) W
  have hpl : (parts l).length ≤ 5001 := by have h1 := List.length_filter_le keep (spl l); have := spl_len_le l; unfold parts; omega
  have hsl : (parts m).length ≤ 5001 := by have h1 := List.length_filter_le keep (spl m); have := spl_len_le m; unfold parts; omega
  generalize parts l = ps at *
  generalize parts m = qs at *
  generalize hN : ps.length = N at *
  generalize hM : qs.length = M at *
  have HN : Hid (ps.length = N) := hN
  have HM : Hid (qs.length = M) := hM
  clear hN hM
  go_enter Tryd.func19, Tryd.ntmps19
  go_wp2_with (first
    | (go_at_call 23; have vd := b1; refine (K2.out _).mono ?_; rintro e w2 ⟨ad2, c2, rfl, hc2, hm2, hs2, b2⟩; have b02 := b1.trans (b2.mono b1.size))
    | (go_at_call 23; refine (K1.out _).mono ?_; rintro e w1 ⟨ad1, c1, rfl, hc1, hm1, hs1, b1⟩))
  have hs1' : Hid (Sl w2 ad1 ps) := hid (hs1.out.below b2)
  clear hs1 b1 b2 vd K1 K2
  go_loopg [7] N (fun g u wr => ∃ i : Nat, i + g = N ∧ i ≤ M ∧ u = .int .i64 i ∧ Hid (lessP ps qs = lessP (ps.drop i) (qs.drop i)) ∧ Hid (Sl wr ad1 ps) ∧ Hid (Sl wr ad2 qs) ∧ Below w.heap.size w wr)
  case atStart => exact ⟨0, by omega, by omega, rfl, hid (by simp), hs1', hs2, b02⟩
  case round =>
    obtain ⟨i, hi, him, rfl, H, S1, S2, bb⟩ := hrel
    clear hs1' hs2 b02
    by_cases hlt : i < N ∧ i < M
    · obtain ⟨hlt1, hlt2⟩ := hlt
      have l1 : i < ps.length := by rw [HN.out]; exact hlt1
      have l2 : i < qs.length := by rw [HM.out]; exact hlt2
      obtain ⟨x, hx⟩ : ∃ x, ps[i]? = some x := ⟨ps[i], List.getElem?_eq_getElem _⟩
      obtain ⟨y, hy⟩ : ∃ y, qs[i]? = some y := ⟨qs[i], List.getElem?_eq_getElem _⟩
      obtain ⟨b1, o1, rfl, k1⟩ := S1.out.at i x hx
      obtain ⟨b2, o2, rfl, k2⟩ := S2.out.at i y hy
      have hd : lessP (ps.drop i) (qs.drop i) = if x = y then lessP (ps.drop (i + 1)) (qs.drop (i + 1)) else ltB x y := by
        rw [List.drop_eq_getElem_cons l1, List.drop_eq_getElem_cons l2, lessP]
        rw [List.getElem?_eq_getElem l1] at hx
        rw [List.getElem?_eq_getElem l2] at hy
        rw [Option.some.inj hx, Option.some.inj hy]
      have tx := bs_toList x
      have ty := bs_toList y
      by_cases e : x = y
      · subst e
        have H2 : Hid (lessP ps qs = lessP (ps.drop (i + 1)) (qs.drop (i + 1))) := hid (by rw [H.out, hd, if_pos rfl])
        clear hx hy l1 l2 hd H
        go_wp2_with fail
        go_quiet (fail)
        have b7 := bb.drewN' nq
        have S3 : Hid (Sl (wr.drewN nq) (some ⟨b1, o1, none⟩) ps) := S1
        have S4 : Hid (Sl (wr.drewN nq) (some ⟨b2, o2, none⟩) qs) := S2
        generalize wr.drewN nq = w7 at *
        go_wp2_with fail
        go_roundg (N - (i + 1))
        case rel => exact ⟨i + 1, by omega, by omega, by simp, H2, S3, S4, b7⟩
        case measure => omega
      · have e' : (x == y) = false := beq_eq_false_iff_ne.2 e
        have H2 : Hid (lessP ps qs = ltB x y) := hid (by rw [H.out, hd, if_neg e])
        clear hx hy l1 l2 hd H
        go_wp2_with fail
        go_quiet (fail)
        have b7 := bb.drewN' nq
        have k3 : (wr.drewN nq).cell? ⟨b1, o1 + i, none⟩ = some (.string (bs x)) := k1
        have k4 : (wr.drewN nq).cell? ⟨b2, o2 + i, none⟩ = some (.string (bs y)) := k2
        generalize wr.drewN nq = w7 at *
        go_wp2_with fail
        go_quiet (fail)
        have b8 := b7.drewN' nq
        generalize w7.drewN nq = w8 at *
        go_wp2_with fail
        go_ret
        exact ⟨by rw [H2.out, ← ltB_less]; rfl, b8⟩
    · have H2 : Hid (lessP ps qs = decide (N < M)) := hid (by
        rw [H.out, lessP_end ps qs i (by rw [HN.out]; omega) (by rw [HM.out]; omega) (by rw [HN.out, HM.out]; exact hlt), HN.out, HM.out])
      by_cases h1 : i < N
      · have h2 : ¬ i < M := fun h => hlt ⟨h1, h⟩
        go_wp2_with fail
        go_ret
        exact ⟨by rw [H2.out]; simp, bb⟩
      · go_wp2_with fail
        go_ret
        exact ⟨by rw [H2.out]; simp, bb⟩

end Go.Proofs.YtmeaiplinkodiaaDoor
