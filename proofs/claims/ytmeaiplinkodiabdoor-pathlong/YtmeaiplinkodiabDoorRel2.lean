/-
  Contract: target.Relative: the end of it, and the whole.
-/
import Derived.Test.YtmeaiplinkodiabDoorRel
namespace Go.Proofs.YtmeaiplinkodiabDoor
open Go.RowKit
open Go.Lib hiding intOf
set_option linter.unusedVariables false
set_option linter.unusedSimpArgs false

set_option maxRecDepth 20000 in
set_option maxHeartbeats 2000000 in
theorem relative_w (d t : List UInt8) (hd : d.length ≤ 4000) (ht : t.length ≤ 4000) (w : World) (hm : Ml w) :
    Calls Tryd.prog 18 #[.string (bs d), .string (bs t)] w fun e w' => e = .returned (.string (bs (rel (prt d) (prt t)))) ∧ Below w.heap.size w w' := by
  have KP : Hid (∀ s : List UInt8, s.length ≤ 4000 → ∀ W, Below w.heap.size w W → Calls Tryd.prog 15 #[.string (bs s)] W fun e w' => ∃ ad, e = .returned (.slice ad (prt s).length (prt s).length) ∧ Hid (Sl w' ad (prt s)) ∧ Below W.heap.size W w') := fun s hs W hb => parts_w s (by omega) W (hm.below hb)
  have KP1 : Hid _ := KP.out d hd
  have KP2 : Hid _ := KP.out t ht
  have hxl : (prt d).length ≤ 4001 := by
    unfold prt; split
    · simp
    · have := spl_len_le d; omega
  have hyl : (prt t).length ≤ 4001 := by
    unfold prt; split
    · simp
    · have := spl_len_le t; omega
  have hym : ∀ p ∈ prt t, p.length ≤ 4000 := fun p hp => by have := prt_mem t p hp; omega
  clear KP hm
  generalize prt d = X at *
  generalize prt t = Y at *
  obtain ⟨c0, hs1, hs2⟩ := strip_spec X Y
  have hfl : (strip X Y).1.length ≤ 4001 := by have := congrArg List.length hs1; simp at this; omega
  have hgl : (strip X Y).2.length ≤ 4001 := by have := congrArg List.length hs2; simp at this; omega
  have hgm : ∀ p ∈ (strip X Y).2, p.length ≤ 4000 := fun p hp => hym p (by rw [hs2]; simp [hp])
  have HR : Hid (rel X Y = jn (if (strip X Y).1 = [] ∧ (strip X Y).2 = [] then [[46]] else List.replicate (strip X Y).1.length [46, 46] ++ (strip X Y).2)) := rfl
  clear hs1 hs2 hym
  generalize hSt : strip X Y = st at *
  have HSt : Hid (strip X Y = st) := hSt
  have hjl : (jn (List.replicate st.1.length [46, 46] ++ st.2)).length ≤ 140737488355328 := by
    have := jn_len_bound 4000 (List.replicate st.1.length [46, 46] ++ st.2) (fun p hp => by
      rcases List.mem_append.1 hp with h | h
      · obtain ⟨_, rfl⟩ := List.mem_replicate.1 h; simp
      · exact hgm p h)
    have h2 : (List.replicate st.1.length ([46, 46] : List UInt8) ++ st.2).length * (4000 + 1) ≤ 8002 * 4001 := Nat.mul_le_mul (by simp; omega) (by omega)
    omega
  clear hSt hgm
  generalize hn : X.length = n at *
  generalize hm : Y.length = m at *
  go_enter Tryd.func18, Tryd.ntmps18
  go_wp2_with (first
    | (go_at_call 15; refine (KP2.out _ b1).mono ?_; rintro e w2 ⟨ad2, rfl, hs2, b2⟩; have b02 := b1.trans (b2.mono b1.size))
    | (go_at_call 15; refine (KP1.out _ (Below.refl _ _)).mono ?_; rintro e w1 ⟨ad1, rfl, hs1, b1⟩))
  have HX0 : Hid (Sl w2 ad1 X) := hid (hs1.out.below b2)
  have HY0 : Hid (Sl w2 ad2 Y) := hs2
  clear KP1 KP2 hs1 hs2
  go_loopg [5, 6] n (fun g t5 t6 wr => ∃ (x y : List (List UInt8)) (a1 a2 : Option Addr) (i j : Nat), i = g ∧ t5 = .slice a1 i i ∧ t6 = .slice a2 j j ∧ i ≤ 4001 ∧ j ≤ 4001 ∧ Hid (x.length = i ∧ y.length = j) ∧ Hid (Sl wr a1 x) ∧ Hid (Sl wr a2 y) ∧ Hid (strip x y = st) ∧ Below w.heap.size w wr)
  case atStart => exact ⟨X, Y, ad1, ad2, n, m, rfl, rfl, rfl, by omega, by omega, ⟨hn, hm⟩, HX0, HY0, HSt, b02⟩
  case round =>
    clear HX0 HY0 HSt
    obtain ⟨x, y, a1, a2, i, j, hxg, rfl, rfl, hx4, hy4, HL, HX, HY, HSt, bb⟩ := hrel
    have KA : Hid (∀ W ad a2, Sl W ad (List.replicate st.1.length [46, 46]) → Sl W a2 st.2 → ∀ ty, ∃ ad' c' w', (Builtin.append_ #[24, 24] ty #[.slice ad st.1.length st.1.length, .slice a2 st.2.length st.2.length]).run Tryd.prog W = .ok (.slice ad' (st.1.length + st.2.length) c') w' ∧ st.1.length + st.2.length ≤ c' ∧ c' ≤ 9223372036854775807 ∧ Sl w' ad' (List.replicate st.1.length [46, 46] ++ st.2) ∧ Below W.heap.size W w') := hid (fun W ad a2 h1 h2 ty => by
      have := append_goal ad a2 (List.replicate st.1.length [46, 46]) st.2 h1 h2 (by rw [List.length_replicate]; omega) ty
      rwa [List.length_replicate] at this)
    have KJ : Hid (∀ W ad c, Sl W ad (List.replicate st.1.length [46, 46] ++ st.2) → st.1.length + st.2.length ≤ c → Calls Tryd.prog 26 #[.slice ad (st.1.length + st.2.length) c, .string ⟨#[47]⟩] W fun e w' => e = .returned (.string (bs (jn (List.replicate st.1.length [46, 46] ++ st.2)))) ∧ Below W.heap.size W w') := hid (fun W ad c hs hc => by
      have hL : (List.replicate st.1.length ([46, 46] : List UInt8) ++ st.2).length = st.1.length + st.2.length := by simp
      have := sjoin_w ad c (List.replicate st.1.length [46, 46] ++ st.2) W hs (by rw [hL]; exact hc) (by rw [hL]; omega) hjl
      rwa [hL] at this)
    have HF : Hid (¬ (st.1 = [] ∧ st.2 = []) → rel X Y = jn (List.replicate st.1.length [46, 46] ++ st.2)) := hid (fun h => by rw [HR.out, if_neg h])
    have HF0 : Hid (st.1 = [] ∧ st.2 = [] → rel X Y = [46]) := hid (fun h => by rw [HR.out, if_pos h, jn_one])
    clear HR hjl
    subst hxg
    obtain ⟨hli, hlj⟩ := HL.out
    by_cases hi0 : i = 0
    · have hx0 : x = [] := List.eq_nil_of_length_eq_zero (by omega)
      have hst := HSt.out
      rw [hx0, strip_nil_left] at hst
      have g1 : decide (0 < i) = false := decide_eq_false (by omega)
      have g1' : decide ((0 : Int) < (i : Int)) = false := decide_eq_false (by omega)
      have g3' : decide (i = 0) = true := decide_eq_true hi0
      have g2' : (i == 0) = true := beq_iff_eq.2 hi0
      have g2 : ((i : Int) == 0) = true := beq_iff_eq.2 (by omega)
      have g3 : decide ((i : Int) = 0) = true := decide_eq_true (by omega)
      by_cases hj0 : j = 0
      · have hy0 : y = [] := List.eq_nil_of_length_eq_zero (by omega)
        have HF1 : Hid (rel X Y = [46]) := hid (HF0.out (by rw [← hst, hy0]; exact ⟨rfl, rfl⟩))
        have g4 : decide ((j : Int) = 0) = true := decide_eq_true (by omega)
        have g4' : decide (j = 0) = true := decide_eq_true hj0
        have g5' : (j == 0) = true := beq_iff_eq.2 hj0
        have g5 : ((j : Int) == 0) = true := beq_iff_eq.2 (by omega)
        clear KA KJ HF HF0 HSt hst hx0 hy0 hi0 hj0 hli hlj HL
        go_wp2_with fail
        go_quiet (fail)
        have b7 := bb.drewN' nq
        generalize wr.drewN nq = w7 at *
        go_wp2_with fail
        go_ret
        exact ⟨by rw [HF1.out]; rfl, b7⟩
      · have hs1 : st.1.length = i := by rw [← hst, hi0]; rfl
        have hs2 : st.2.length = j := by rw [← hst]; exact hlj
        have HF1 : Hid (rel X Y = jn (List.replicate st.1.length [46, 46] ++ st.2)) := hid (HF.out (fun h => hj0 (by rw [← hs2, h.2]; rfl)))
        have HG : Hid (Sl wr a2 st.2) := hid (by rw [← hst]; exact HY.out)
        have g4 : decide ((j : Int) = 0) = false := decide_eq_false (by omega)
        have g4' : decide (j = 0) = false := decide_eq_false hj0
        have g5' : (j == 0) = false := beq_eq_false_iff_ne.2 hj0
        have g5 : ((j : Int) == 0) = false := beq_eq_false_iff_ne.2 (by omega)
        rw [hs1, hs2] at KA KJ
        rw [hs1] at HF1
        clear HF HF0 HSt hst hx0 hi0 hli hlj HL hs1 hs2 HX HY
        go_wp2_with fail
        go_quiet (fail)
        have b7 : Below w.heap.size w (wr.drewN nq) := bb.drewN' nq
        have S7 : Hid (Sl (wr.drewN nq) a2 st.2) := HG
        generalize wr.drewN nq = w7 at *
        have b8 : Below w.heap.size w (w7.alloc (.cells #[.string ⟨#[46, 46]⟩] 9)) := b7.alloc b7.size _
        have q8 : Calls Tryd.prog 27 #[.slice (some ⟨w7.heap.size, 0, none⟩) 1 1, .int .i64 (i : Int)] (w7.alloc (.cells #[.string ⟨#[46, 46]⟩] 9)) fun e w' => e = .returned (.slice (some ⟨w7.heap.size + 1, 0, none⟩) i i) ∧ Hid (Sl w' (some ⟨w7.heap.size + 1, 0, none⟩) (List.replicate i [46, 46])) ∧ Hid (Below (w7.alloc (.cells #[.string ⟨#[46, 46]⟩] 9)).heap.size (w7.alloc (.cells #[.string ⟨#[46, 46]⟩] 9)) w') := by
          have := repeat_w w7.heap.size 0 i (by omega) (w7.alloc (.cells #[.string ⟨#[46, 46]⟩] 9)) (by simp; rfl)
          have e : (w7.alloc (.cells #[.string ⟨#[46, 46]⟩] 9)).heap.size = w7.heap.size + 1 := by simp
          rw [e] at this
          rw [e]
          exact this
        have S8 : Hid (Sl (w7.alloc (.cells #[.string ⟨#[46, 46]⟩] 9)) a2 st.2) := hid (S7.out.below ((Below.refl _ _).alloc (Nat.le_refl _) _))
        go_wp2_with (first
          | (at_builtin; obtain ⟨ad10, c10, w10, hrun, hl10, hm10, hs10, b10⟩ := KA.out w9 _ a2 hs9.out (S8.out.below b9.out) 24; have b010 := b09.trans (b10.mono b09.size); refine wpList_append_run rfl _ _ 24 24 rfl _ _ _ rfl rfl hrun ?_; clear hrun)
          | (go_at_call 26; refine (KJ.out w10 ad10 c10 hs10 hl10).mono ?_; rintro e w11 ⟨rfl, b11⟩)
          | (go_at_call 27; refine q8.mono ?_; rintro e w9 ⟨rfl, hs9, b9⟩; have b09 := b8.trans (b9.out.mono b8.size)))
        go_ret
        exact ⟨by rw [HF1.out]; rfl, b010.trans (b11.mono b010.size)⟩
    · obtain ⟨p, x', rfl⟩ : ∃ p x', x = p :: x' := by
        cases x with
        | nil => simp at hli; omega
        | cons p x' => exact ⟨p, x', rfl⟩
      have hst := HSt.out
      have g1 : decide (0 < i) = true := decide_eq_true (by omega)
      have g1' : decide ((0 : Int) < (i : Int)) = true := decide_eq_true (by omega)
      have g3' : decide (i = 0) = false := decide_eq_false hi0
      have g2' : (i == 0) = false := beq_eq_false_iff_ne.2 hi0
      have g2 : ((i : Int) == 0) = false := beq_eq_false_iff_ne.2 (by omega)
      have g3 : decide ((i : Int) = 0) = false := decide_eq_false (by omega)
      obtain ⟨b1, o1, ha1⟩ := HX.out.some
      subst ha1
      obtain ⟨hc1, hs1⟩ := HX.out.tail
      by_cases hj0 : j = 0
      · have hy0 : y = [] := List.eq_nil_of_length_eq_zero (by omega)
        subst hy0
        rw [strip_nil_right] at hst
        have hs1 : st.1.length = i := by rw [← hst]; exact hli
        have hs2 : st.2.length = j := by rw [← hst]; exact hlj
        have HF1 : Hid (rel X Y = jn (List.replicate st.1.length [46, 46] ++ st.2)) := hid (HF.out (fun h => hi0 (by rw [← hs1, h.1]; rfl)))
        have HG : Hid (Sl wr a2 st.2) := hid (by rw [← hst]; exact HY.out)
        have g4 : decide (0 < j) = false := decide_eq_false (by omega)
        have g4' : decide ((0 : Int) < (j : Int)) = false := decide_eq_false (by omega)
        rw [hs1, hs2] at KA KJ
        rw [hs1] at HF1
        clear HF HF0 HSt hst hli hlj HL hs1 hs2 HX HY hj0
        go_wp2_with fail
        go_quiet (fail)
        have b7 : Below w.heap.size w (wr.drewN nq) := bb.drewN' nq
        have S7 : Hid (Sl (wr.drewN nq) a2 st.2) := HG
        generalize wr.drewN nq = w7 at *
        have b8 : Below w.heap.size w (w7.alloc (.cells #[.string ⟨#[46, 46]⟩] 9)) := b7.alloc b7.size _
        have q8 : Calls Tryd.prog 27 #[.slice (some ⟨w7.heap.size, 0, none⟩) 1 1, .int .i64 (i : Int)] (w7.alloc (.cells #[.string ⟨#[46, 46]⟩] 9)) fun e w' => e = .returned (.slice (some ⟨w7.heap.size + 1, 0, none⟩) i i) ∧ Hid (Sl w' (some ⟨w7.heap.size + 1, 0, none⟩) (List.replicate i [46, 46])) ∧ Hid (Below (w7.alloc (.cells #[.string ⟨#[46, 46]⟩] 9)).heap.size (w7.alloc (.cells #[.string ⟨#[46, 46]⟩] 9)) w') := by
          have := repeat_w w7.heap.size 0 i (by omega) (w7.alloc (.cells #[.string ⟨#[46, 46]⟩] 9)) (by simp; rfl)
          have e : (w7.alloc (.cells #[.string ⟨#[46, 46]⟩] 9)).heap.size = w7.heap.size + 1 := by simp
          rw [e] at this
          rw [e]
          exact this
        have S8 : Hid (Sl (w7.alloc (.cells #[.string ⟨#[46, 46]⟩] 9)) a2 st.2) := hid (S7.out.below ((Below.refl _ _).alloc (Nat.le_refl _) _))
        go_wp2_with (first
          | (at_builtin; obtain ⟨ad10, c10, w10, hrun, hl10, hm10, hs10, b10⟩ := KA.out w9 _ a2 hs9.out (S8.out.below b9.out) 24; have b010 := b09.trans (b10.mono b09.size); refine wpList_append_run rfl _ _ 24 24 rfl _ _ _ rfl rfl hrun ?_; clear hrun)
          | (go_at_call 26; refine (KJ.out w10 ad10 c10 hs10 hl10).mono ?_; rintro e w11 ⟨rfl, b11⟩)
          | (go_at_call 27; refine q8.mono ?_; rintro e w9 ⟨rfl, hs9, b9⟩; have b09 := b8.trans (b9.out.mono b8.size)))
        go_ret
        exact ⟨by rw [HF1.out]; rfl, b010.trans (b11.mono b010.size)⟩
      · obtain ⟨q, y', rfl⟩ : ∃ q y', y = q :: y' := by
          cases y with
          | nil => simp at hlj; omega
          | cons q y' => exact ⟨q, y', rfl⟩
        have g4 : decide (0 < j) = true := decide_eq_true (by omega)
        have g4' : decide ((0 : Int) < (j : Int)) = true := decide_eq_true (by omega)
        obtain ⟨b2, o2, ha2⟩ := HY.out.some
        subst ha2
        obtain ⟨hc2, hs2⟩ := HY.out.tail
        have tp := bs_toList p
        have tq := bs_toList q
        by_cases hpq : p = q
        · subst hpq
          rw [strip_eq] at hst
          have HSt2 : Hid (strip x' y' = st) := hst
          have HX2 : Hid (Sl wr (some ⟨b1, o1 + 1, none⟩) x') := hs1
          have HY2 : Hid (Sl wr (some ⟨b2, o2 + 1, none⟩) y') := hs2
          obtain ⟨i', rfl⟩ : ∃ i', i = i' + 1 := ⟨i - 1, by omega⟩
          obtain ⟨j', rfl⟩ : ∃ j', j = j' + 1 := ⟨j - 1, by omega⟩
          have HL2 : Hid (x'.length = i' ∧ y'.length = j') := hid (by simp at hli hlj; exact ⟨hli, hlj⟩)
          have HX3 : Hid (∀ ad, i' = 0 → Sl wr ad x') := hid (fun ad h => by rw [List.eq_nil_of_length_eq_zero (HL2.out.1.trans h)]; exact Sl.nil _ _)
          have HY3 : Hid (∀ ad, j' = 0 → Sl wr ad y') := hid (fun ad h => by rw [List.eq_nil_of_length_eq_zero (HL2.out.2.trans h)]; exact Sl.nil _ _)
          clear HF HF0 HSt hst hli hlj HL hs1 hs2 HX HY hj0 hi0 KA KJ
          by_cases hi1 : i' = 0
          · by_cases hj1 : j' = 0
            · go_wp2_with fail
              go_quiet (fail)
              have b7 := bb.drewN' nq
              have HX4 : Hid (Sl (wr.drewN nq) (some ⟨b1, o1, none⟩) x') := hid (HX3.out _ hi1)
              have HY4 : Hid (Sl (wr.drewN nq) (some ⟨b2, o2, none⟩) y') := hid (HY3.out _ hj1)
              generalize wr.drewN nq = w7 at *
              go_wp2_with fail
              go_quiet (fail)
              have b8 := b7.drewN' nq
              have HX5 : Hid (Sl (w7.drewN nq) (some ⟨b1, o1, none⟩) x') := HX4
              have HY5 : Hid (Sl (w7.drewN nq) (some ⟨b2, o2, none⟩) y') := HY4
              generalize w7.drewN nq = w8 at *
              go_wp2_with fail
              go_roundg i'
              case measure => omega
              case rel => exact ⟨x', y', some ⟨b1, o1, none⟩, some ⟨b2, o2, none⟩, i', j', rfl, by rw [hi1], by rw [hj1], by omega, by omega, HL2, HX5, HY5, HSt2, b8⟩
            · have j5 : ¬ j' + 1 = 1 := by omega
              go_wp2_with fail
              go_quiet (fail)
              have b7 := bb.drewN' nq
              have HX4 : Hid (Sl (wr.drewN nq) (some ⟨b1, o1, none⟩) x') := hid (HX3.out _ hi1)
              have HY4 : Hid (Sl (wr.drewN nq) (some ⟨b2, o2 + 1, none⟩) y') := HY2
              generalize wr.drewN nq = w7 at *
              go_wp2_with fail
              go_quiet (fail)
              have b8 := b7.drewN' nq
              have HX5 : Hid (Sl (w7.drewN nq) (some ⟨b1, o1, none⟩) x') := HX4
              have HY5 : Hid (Sl (w7.drewN nq) (some ⟨b2, o2 + 1, none⟩) y') := HY4
              generalize w7.drewN nq = w8 at *
              go_wp2_with fail
              go_roundg i'
              case measure => omega
              case rel => exact ⟨x', y', some ⟨b1, o1, none⟩, some ⟨b2, o2 + 1, none⟩, i', j', rfl, by rw [hi1], by first | rfl | simp, by omega, by omega, HL2, HX5, HY5, HSt2, b8⟩
          · have i5 : ¬ i' + 1 = 1 := by omega
            by_cases hj1 : j' = 0
            · go_wp2_with fail
              go_quiet (fail)
              have b7 := bb.drewN' nq
              have HX4 : Hid (Sl (wr.drewN nq) (some ⟨b1, o1 + 1, none⟩) x') := HX2
              have HY4 : Hid (Sl (wr.drewN nq) (some ⟨b2, o2, none⟩) y') := hid (HY3.out _ hj1)
              generalize wr.drewN nq = w7 at *
              go_wp2_with fail
              go_quiet (fail)
              have b8 := b7.drewN' nq
              have HX5 : Hid (Sl (w7.drewN nq) (some ⟨b1, o1 + 1, none⟩) x') := HX4
              have HY5 : Hid (Sl (w7.drewN nq) (some ⟨b2, o2, none⟩) y') := HY4
              generalize w7.drewN nq = w8 at *
              go_wp2_with fail
              go_roundg i'
              case measure => omega
              case rel => exact ⟨x', y', some ⟨b1, o1 + 1, none⟩, some ⟨b2, o2, none⟩, i', j', rfl, by first | rfl | simp, by rw [hj1], by omega, by omega, HL2, HX5, HY5, HSt2, b8⟩
            · have j5 : ¬ j' + 1 = 1 := by omega
              go_wp2_with fail
              go_quiet (fail)
              have b7 := bb.drewN' nq
              have HX4 : Hid (Sl (wr.drewN nq) (some ⟨b1, o1 + 1, none⟩) x') := HX2
              have HY4 : Hid (Sl (wr.drewN nq) (some ⟨b2, o2 + 1, none⟩) y') := HY2
              generalize wr.drewN nq = w7 at *
              go_wp2_with fail
              go_quiet (fail)
              have b8 := b7.drewN' nq
              have HX5 : Hid (Sl (w7.drewN nq) (some ⟨b1, o1 + 1, none⟩) x') := HX4
              have HY5 : Hid (Sl (w7.drewN nq) (some ⟨b2, o2 + 1, none⟩) y') := HY4
              generalize w7.drewN nq = w8 at *
              go_wp2_with fail
              go_roundg i'
              case measure => omega
              case rel => exact ⟨x', y', some ⟨b1, o1 + 1, none⟩, some ⟨b2, o2 + 1, none⟩, i', j', rfl, by first | rfl | simp, by first | rfl | simp, by omega, by omega, HL2, HX5, HY5, HSt2, b8⟩
        · rw [strip_ne _ _ _ _ hpq] at hst
          have hs3 : st.1.length = i := by rw [← hst]; exact hli
          have hs4 : st.2.length = j := by rw [← hst]; exact hlj
          have HF1 : Hid (rel X Y = jn (List.replicate st.1.length [46, 46] ++ st.2)) := hid (HF.out (fun h => hi0 (by rw [← hs3, h.1]; rfl)))
          have HG : Hid (Sl wr (some ⟨b2, o2, none⟩) st.2) := hid (by rw [← hst]; exact HY.out)
          have e' : (p == q) = false := beq_eq_false_iff_ne.2 hpq
          rw [hs3, hs4] at KA KJ
          rw [hs3] at HF1
          clear HF HF0 HSt hst hli hlj HL hs1 hs2 HX HY hs3 hs4
          go_wp2_with fail
          go_quiet (fail)
          have b7 : Below w.heap.size w (wr.drewN nq) := bb.drewN' nq
          have S7 : Hid (Sl (wr.drewN nq) (some ⟨b2, o2, none⟩) st.2) := HG
          generalize wr.drewN nq = w7 at *
          have b8 : Below w.heap.size w (w7.alloc (.cells #[.string ⟨#[46, 46]⟩] 9)) := b7.alloc b7.size _
          have q8 : Calls Tryd.prog 27 #[.slice (some ⟨w7.heap.size, 0, none⟩) 1 1, .int .i64 (i : Int)] (w7.alloc (.cells #[.string ⟨#[46, 46]⟩] 9)) fun e w' => e = .returned (.slice (some ⟨w7.heap.size + 1, 0, none⟩) i i) ∧ Hid (Sl w' (some ⟨w7.heap.size + 1, 0, none⟩) (List.replicate i [46, 46])) ∧ Hid (Below (w7.alloc (.cells #[.string ⟨#[46, 46]⟩] 9)).heap.size (w7.alloc (.cells #[.string ⟨#[46, 46]⟩] 9)) w') := by
            have := repeat_w w7.heap.size 0 i (by omega) (w7.alloc (.cells #[.string ⟨#[46, 46]⟩] 9)) (by simp; rfl)
            have e : (w7.alloc (.cells #[.string ⟨#[46, 46]⟩] 9)).heap.size = w7.heap.size + 1 := by simp
            rw [e] at this
            rw [e]
            exact this
          have S8 : Hid (Sl (w7.alloc (.cells #[.string ⟨#[46, 46]⟩] 9)) (some ⟨b2, o2, none⟩) st.2) := hid (S7.out.below ((Below.refl _ _).alloc (Nat.le_refl _) _))
          go_wp2_with (first
            | (at_builtin; obtain ⟨ad10, c10, w10, hrun, hl10, hm10, hs10, b10⟩ := KA.out w9 _ (some ⟨b2, o2, none⟩) hs9.out (S8.out.below b9.out) 24; have b010 := b09.trans (b10.mono b09.size); refine wpList_append_run rfl _ _ 24 24 rfl _ _ _ rfl rfl hrun ?_; clear hrun)
            | (go_at_call 26; refine (KJ.out w10 ad10 c10 hs10 hl10).mono ?_; rintro e w11 ⟨rfl, b11⟩)
            | (go_at_call 27; refine q8.mono ?_; rintro e w9 ⟨rfl, hs9, b9⟩; have b09 := b8.trans (b9.out.mono b8.size)))
          go_ret
          exact ⟨by rw [HF1.out]; rfl, b010.trans (b11.mono b010.size)⟩

end Go.Proofs.YtmeaiplinkodiabDoor
