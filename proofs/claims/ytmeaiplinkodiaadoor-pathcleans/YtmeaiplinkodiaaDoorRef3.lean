/-
  Contracts: the document's Join, Clean.
-/
import Derived.Test.YtmeaiplinkodiaaDoorRef2
namespace Go.Proofs.YtmeaiplinkodiaaDoor
open Go.RowKit
open Go.Lib hiding intOf
set_option linter.unusedVariables false
set_option linter.unusedSimpArgs false

theorem jn_take_zero (ps : List (List UInt8)) (x : List UInt8) (h : ps[0]? = some x) : jn (ps.take 1) = x := by
  cases ps with
  | nil => simp at h
  | cons a r => simp at h; subst h; simp [jn_one]
theorem jn_take_succ (ps : List (List UInt8)) (i : Nat) (x : List UInt8) (h : ps[i]? = some x) (hi : 0 < i) : jn (ps.take (i + 1)) = jn (ps.take i) ++ 47 :: x := by
  have hl : i < ps.length := (List.getElem?_eq_some_iff.1 h).1
  rw [List.take_add_one, h]
  have : ps.take i ≠ [] := by intro e; have := congrArg List.length e; rw [List.length_take, List.length_nil] at this; omega
  simp only [Option.toList]
  rw [jn_append _ _ this (by simp), jn_one]

theorem jn_take_le (ps : List (List UInt8)) (i : Nat) : (jn (ps.take i)).length ≤ (jn ps).length := by
  have e := List.take_append_drop i ps
  by_cases h : ps.take i = []
  · rw [h, jn_nil]; simp
  · by_cases h2 : ps.drop i = []
    · rw [h2, List.append_nil] at e; rw [e]; exact Nat.le_refl _
    · have := jn_append _ _ h h2
      rw [e] at this
      rw [this]; simp

set_option maxHeartbeats 2000000 in
theorem rjoin_w (ad : Option Addr) (c : Nat) (ps : List (List UInt8)) (w : World) (h : Sl w ad ps) (hc : ps.length ≤ c) (hn : ps.length ≤ 100000) (hl : (jn ps).length ≤ 100000) :
    Calls Tryd.prog 16 #[.slice ad ps.length c] w fun e w' => e = .returned (.string (bs (jn ps))) ∧ w' = w := by
  have HS : Hid (∀ i x, ps[i]? = some x → ∃ b o, ad = some ⟨b, o, none⟩ ∧ w.cell? ⟨b, o + i, none⟩ = some (.string (bs x))) := fun i x hx => by
    rcases h with h | ⟨b, o, h1, h2, h3⟩
    · rw [h] at hx; simp at hx
    · exact ⟨b, o, h1, h3 i x hx⟩
  have HL : Hid (∀ i, (jn (ps.take i)).length ≤ 100000) := fun i => Nat.le_trans (jn_take_le ps i) hl
  clear h hl
  generalize hN : ps.length = N at *
  have HN : Hid (ps.length = N) := hN
  clear hN
  go_enter Tryd.func16, Tryd.ntmps16
  go_wp2_with fail
  go_loop [3, 4] (fun t3 t4 => ∃ i : Nat, i ≤ N ∧ t4 = .int .i64 i ∧ t3 = .string (bs (jn (ps.take i)))) (fun _ t => N - (RowKit.intOf t).toNat)
  case atStart => exact ⟨0, Nat.zero_le _, rfl, by simp [jn_nil]; rfl⟩
  case round =>
    obtain ⟨i, hi, rfl, rfl⟩ := hrel
    by_cases hlt : i < N
    · have l1 : i < ps.length := by rw [HN.out]; exact hlt
      obtain ⟨x, hx⟩ : ∃ x, ps[i]? = some x := ⟨ps[i], List.getElem?_eq_getElem _⟩
      obtain ⟨b, o, had, hcell⟩ := HS.out i x hx
      subst had
      have y1 : (bs (jn (ps.take i))).size ≤ 100000 := by rw [bs_size]; exact HL.out i
      by_cases h0 : i = 0
      · have hip : ¬ (0 : Int) < (i : Int) := by omega
        have e1 : jn (ps.take (i + 1)) = x := by subst h0; exact jn_take_zero ps x hx
        have e0 : jn (ps.take i) = [] := by subst h0; simp [jn_nil]
        have hcat : bs (jn (ps.take i)) ++ bs x = bs (jn (ps.take (i + 1))) := by rw [bs_app, e1, e0]; rfl
        have y2 : (bs x).size ≤ 100000 := by
          have := HL.out (i + 1)
          rw [e1] at this
          rw [bs_size]; exact this
        clear e0 e1
        generalize jn (ps.take i) = P at *
        generalize hJ : jn (ps.take (i + 1)) = J at *
        have HJ : Hid (jn (ps.take (i + 1)) = J) := hJ
        clear hx l1 hJ h0
        go_wp2_with fail
        go_round
        case rel => exact ⟨i + 1, by omega, by simp, by rw [HJ.out]⟩
        case measure => simp [RowKit.intOf]; omega
      · have e1 : jn (ps.take (i + 1)) = jn (ps.take i) ++ 47 :: x := jn_take_succ ps i x hx (by omega)
        have hcat1 : bs (jn (ps.take i)) ++ (⟨#[47]⟩ : ByteArray) = bs (jn (ps.take i) ++ [47]) := bs_app _ [47]
        have hcat2 : bs (jn (ps.take i) ++ [47]) ++ bs x = bs (jn (ps.take (i + 1))) := by rw [bs_app, e1]; congr 1; simp
        have y3 : (bs (jn (ps.take i) ++ [47])).size ≤ 100001 := by rw [bs_size]; simp; exact HL.out i
        have y2 : (bs x).size ≤ 100000 := by
          have := HL.out (i + 1)
          rw [e1] at this
          simp at this
          rw [bs_size]; omega
        generalize jn (ps.take i) = P at *
        generalize P ++ [47] = P2 at *
        generalize hJ : jn (ps.take (i + 1)) = J at *
        have HJ : Hid (jn (ps.take (i + 1)) = J) := hJ
        have hip : (0 : Int) < (i : Int) := by omega
        clear hx l1 hJ e1
        go_wp2_with fail
        go_round
        case rel => exact ⟨i + 1, by omega, by simp, by rw [HJ.out]⟩
        case measure => simp [RowKit.intOf]; omega
    · have hiN : i = N := by omega
      have HF : Hid (jn (ps.take i) = jn ps) := hid (by rw [List.take_of_length_le (by rw [HN.out]; omega)])
      clear hiN
      go_wp2_with fail
      go_ret
      exact ⟨by rw [← HF.out]; rfl, rfl⟩

theorem badOf_filter : ∀ ps : List (List UInt8), badOf (ps.filter keep) = badOf ps
  | [] => rfl
  | p :: r => by
    by_cases k : keep p = true
    · rw [List.filter_cons_of_pos k, badOf, badOf, badOf_filter r]
    · rw [List.filter_cons_of_neg k, badOf_filter r, badOf, if_pos (by simpa using k)]

set_option maxRecDepth 20000 in
set_option maxHeartbeats 2000000 in
theorem rclean_ok (l : List UInt8) (h0 : snd0 l = 0) (w : World) :
    Calls Tryd.prog 11 #[.string (bs l)] w fun e w' => ∃ ad c, e = .returned (.tuple #[.slice ad (cln l).length c, .int .i64 (err l)]) ∧ (cln l).length ≤ c ∧ c ≤ 9223372036854775807 ∧ Hid (Sl w' ad (cln l)) ∧ Below w.heap.size w w' := by
  have hl : l.length ≤ 4000 := ((snd_zero l).1 h0).2.1
  have qs := rsound_w l (by omega) w
  rw [h0] at qs
  have q2 := rsplit_w l (by omega) w
  have HE : Hid (err l = badOf (parts l)) := hid (by rw [err_of l h0]; exact (badOf_filter _).symm)
  have HC : Hid (err l = 0 → cln l = parts l) := hid (fun h => by unfold cln; rw [if_pos h])
  have HB : Hid (err l ≠ 0 → cln l = []) := hid (fun h => cln_bad l h)
  have hpl : (parts l).length ≤ l.length + 1 := Nat.le_trans (List.length_filter_le _ _) (spl_len_le l)
  have HK : Hid (∀ i x, (parts l)[i]? = some x → keep x = true) := hid (fun i x hx => (List.mem_filter.1 (List.mem_of_getElem? hx)).2)
  clear h0
  generalize parts l = ps at *
  generalize hN : ps.length = N at *
  have HN : Hid (ps.length = N) := hN
  clear hN
  go_enter Tryd.func11, Tryd.ntmps11
  go_wp2_with (first | (go_at_call 14; refine qs.mono ?_; rintro e w' ⟨rfl, hw⟩; rw [hw]) | (go_at_call 23; refine q2.mono ?_; rintro e w1 ⟨ad1, c1, rfl, hc1, hm1, hs1, b1⟩))
  go_loop [6] (fun t => ∃ i : Nat, i ≤ N ∧ t = .int .i64 i ∧ Hid (badOf ps = badOf (ps.drop i))) (fun t => N - (RowKit.intOf t).toNat)
  case atStart => exact ⟨0, Nat.zero_le _, rfl, hid (by simp)⟩
  case round =>
    obtain ⟨i, hi, rfl, H⟩ := hrel
    by_cases hlt : i < N
    · have l1 : i < ps.length := by rw [HN.out]; exact hlt
      obtain ⟨x, hx⟩ : ∃ x, ps[i]? = some x := ⟨ps[i], List.getElem?_eq_getElem _⟩
      obtain ⟨b, o, had, hcell⟩ : ∃ b o, ad1 = some ⟨b, o, none⟩ ∧ w1.cell? ⟨b, o + i, none⟩ = some (.string (bs x)) := by
        rcases hs1.out with h | ⟨b, o, h1, h2, h3⟩
        · rw [h] at hx; simp at hx
        · exact ⟨b, o, h1, h3 i x hx⟩
      subst had
      have h := H.out
      rw [badOf_step ps i x hx, badOf, if_neg (by rw [HK.out i x hx]; simp)] at h
      have tx := bs_toList x
      have zx := bs_size x
      by_cases d : x = [46, 46]
      · have hDD : (x == [46, 46]) = true := by simpa using d
        rw [if_pos d] at h
        have HF : Hid (err l = 104) := hid (by rw [HE.out, h])
        clear h d hx l1
        go_wp2_with fail
        go_ret2
        rw [HB.out (by rw [HF.out]; decide), HF.out]
        exact ⟨none, 0, rfl, by simp, by simp, .inl rfl, b1⟩
      · have hDD : (x == [46, 46]) = false := by simpa using d
        rw [if_neg d] at h
        by_cases g : 255 < x.length
        · rw [if_pos g] at h
          have HF : Hid (err l = 2) := hid (by rw [HE.out, h])
          clear h d hx l1
          go_wp2_with fail
          go_ret2
          rw [HB.out (by rw [HF.out]; decide), HF.out]
          exact ⟨none, 0, rfl, by simp, by simp, .inl rfl, b1⟩
        · rw [if_neg g] at h
          have H2 : Hid (badOf ps = badOf (ps.drop (i + 1))) := h
          clear h d hx l1
          go_wp2_with fail
          go_round
          case rel => exact ⟨i + 1, by omega, by simp, H2⟩
          case measure => simp [RowKit.intOf]; omega
    · have h := H.out
      rw [List.drop_of_length_le (by rw [HN.out]; omega)] at h
      have HF : Hid (err l = 0) := hid (by rw [HE.out, h]; rfl)
      clear h
      go_wp2_with fail
      go_ret2
      rw [HC.out HF.out, HF.out, HN.out]
      exact ⟨ad1, c1, rfl, hc1, hm1, hs1, b1⟩

theorem rclean_w (l : List UInt8) (hl : l.length ≤ 9223372036854775807) (w : World) :
    Calls Tryd.prog 11 #[.string (bs l)] w fun e w' => ∃ ad c, e = .returned (.tuple #[.slice ad (cln l).length c, .int .i64 (err l)]) ∧ (cln l).length ≤ c ∧ c ≤ 9223372036854775807 ∧ Hid (Sl w' ad (cln l)) ∧ Below w.heap.size w w' := by
  by_cases h0 : snd0 l = 0
  · exact rclean_ok l h0 w
  · have qs := rsound_w l hl w
    have HF : Hid (err l = snd0 l) := hid (by unfold err; rw [if_pos h0])
    have HC : Hid (cln l = []) := hid (cln_bad l (by rw [HF.out]; exact h0))
    generalize snd0 l = z at *
    go_enter Tryd.func11, Tryd.ntmps11
    go_wp2_with (go_at_call 14; refine qs.mono ?_; rintro e w' ⟨rfl, hw⟩; rw [hw])
    go_ret2
    rw [HC.out, HF.out]
    exact ⟨none, 0, rfl, by simp, by simp, .inl rfl, Below.refl _ _⟩

end Go.Proofs.YtmeaiplinkodiaaDoor
