/-
  Contract: target.Resolve.
-/
import Derived.Test.YtmeaiplinkodiabDoorWalk
import Derived.Deep.RegionHeld3
namespace Go.Proofs.YtmeaiplinkodiabDoor
open Go.RowKit
open Go.Lib hiding intOf
set_option linter.unusedVariables false
set_option linter.unusedSimpArgs false

theorem stp_from : ∀ (S a : List (List UInt8)), (∀ p ∈ (stp a S).1, p ∈ a ∨ p ∈ S) ∧ (stp a S).1.length ≤ a.length + S.length
  | [], a => ⟨fun p hp => .inl hp, by simp [stp]⟩
  | q :: r, a => by
    simp only [stp]
    split
    · obtain ⟨h1, h2⟩ := stp_from r a
      exact ⟨fun p hp => (h1 p hp).imp id (fun h => by simp [h]), by simp; omega⟩
    · split
      · split
        · exact ⟨fun p hp => by simp at hp, by simp⟩
        · obtain ⟨h1, h2⟩ := stp_from r a.dropLast
          refine ⟨fun p hp => (h1 p hp).imp (fun h => List.dropLast_subset _ h) (fun h => by simp [h]), ?_⟩
          rw [List.length_dropLast] at h2
          simp; omega
      · split
        · exact ⟨fun p hp => by simp at hp, by simp⟩
        · obtain ⟨h1, h2⟩ := stp_from r (a ++ [q])
          refine ⟨fun p hp => ?_, by simp at h2 ⊢; omega⟩
          rcases h1 p hp with h | h
          · rcases List.mem_append.1 h with h | h
            · exact .inl h
            · simp at h; subst h; exact .inr (by simp)
          · exact .inr (by simp [h])

theorem jn_len_bound (M : Nat) : ∀ ps : List (List UInt8), (∀ p ∈ ps, p.length ≤ M) → (jn ps).length ≤ ps.length * (M + 1)
  | [], _ => by simp [jn_nil]
  | [p], h => by have := h p (by simp); rw [jn_one]; simp; omega
  | p :: q :: r, h => by
    have h1 := h p (by simp)
    have ih := jn_len_bound M (q :: r) (fun x hx => h x (List.mem_cons_of_mem _ hx))
    rw [jn_cons, List.length_cons (a := p), Nat.succ_mul]
    simp only [List.length_append, List.length_cons] at ih ⊢
    omega

theorem spl_len_mem (l p : List UInt8) (h : p ∈ spl l) : p.length ≤ l.length := by
  have := jn_length_le (spl l) p h
  rwa [jn_spl] at this

theorem prt_mem (l p : List UInt8) (h : p ∈ prt l) : p.length ≤ l.length := by
  unfold prt at h
  split at h
  · simp at h
  · exact spl_len_mem l p h

theorem Aw.part {w : World} {B B' c n : Nat} {g : Nat} {ps qs : List (List UInt8)} (h : Aw w B (some ⟨g, 0, none⟩) c (ps ++ qs)) (hn : n = ps.length) (hB : B' ≤ B) : Aw w B' (some ⟨g, 0, none⟩) n ps := by
  rcases h with ⟨h, _⟩ | ⟨g', h1, h2, h3, h4, h5, h6, h7⟩
  · cases h
  · have e : g = g' := by injection h1 with h1; injection h1
    subst e hn
    rw [List.length_append] at h4
    refine .inr ⟨g, rfl, Nat.le_trans hB h2, h3, Nat.le_refl _, by omega, fun i hi => h6 i (by omega), fun i x hx => h7 i x ?_⟩
    rw [List.getElem?_append_left (List.getElem?_eq_some_iff.1 hx).1]
    exact hx

theorem Aw.rest {w : World} {B c : Nat} {g : Nat} {ps qs : List (List UInt8)} (h : Aw w B (some ⟨g, 0, none⟩) c (ps ++ qs)) : (∀ i x, qs[i]? = some x → w.cell? ⟨g, ps.length + i, none⟩ = some (.string (bs x))) ∧ g < w.heap.size ∧ ps.length + qs.length ≤ c ∧ c ≤ 9223372036854775807 := by
  rcases h with ⟨h, _⟩ | ⟨g', h1, h2, h3, h4, h5, h6, h7⟩
  · cases h
  · have e : g = g' := by injection h1 with h1; injection h1
    subst e
    rw [List.length_append] at h4
    refine ⟨fun i x hx => h7 _ x ?_, h3, h4, h5⟩
    rw [List.getElem?_append_right (by omega), Nat.add_sub_cancel_left]
    exact hx

theorem resolve_abs (d tt : List UInt8) (hl : tt.length ≤ 9223372036854775807) (h : snd0 tt = 103) (w : World) :
    Calls Tryd.prog 13 #[.string (bs d), .string (bs tt)] w fun e w' => e = .returned (.tuple #[.string (bs (rsv d tt).1), .int .i64 (rsv d tt).2]) ∧ Below w.heap.size w w' := by
  have q := sound_w tt hl w
  rw [h] at q
  have HF : Hid (rsv d tt = ([], 110)) := hid (by unfold rsv; rw [if_pos h])
  clear h
  go_enter Tryd.func13, Tryd.ntmps13
  go_wp2_with (go_at_call 21; refine q.mono ?_; rintro e w1 ⟨rfl, b1⟩)
  go_ret2
  exact ⟨by rw [HF.out]; rfl, b1⟩

theorem resolve_bad (d tt : List UInt8) (hl : tt.length ≤ 9223372036854775807) (h : snd0 tt ≠ 103) (h0 : snd0 tt ≠ 0) (w : World) :
    Calls Tryd.prog 13 #[.string (bs d), .string (bs tt)] w fun e w' => e = .returned (.tuple #[.string (bs (rsv d tt).1), .int .i64 (rsv d tt).2]) ∧ Below w.heap.size w w' := by
  have q := sound_w tt hl w
  have HF : Hid (rsv d tt = ([], snd0 tt)) := hid (by unfold rsv; rw [if_neg h, if_pos h0])
  generalize snd0 tt = z at *
  go_enter Tryd.func13, Tryd.ntmps13
  go_wp2_with (go_at_call 21; refine q.mono ?_; rintro e w1 ⟨rfl, b1⟩)
  go_ret2
  exact ⟨by rw [HF.out]; rfl, b1⟩

set_option maxRecDepth 20000 in
set_option maxHeartbeats 2000000 in
theorem resolve_ok (d tt : List UInt8) (hdl : d.length ≤ 4000) (h0 : snd0 tt = 0) (w : World) (hm : Ml w) :
    Calls Tryd.prog 13 #[.string (bs d), .string (bs tt)] w fun e w' => e = .returned (.tuple #[.string (bs (rsv d tt).1), .int .i64 (rsv d tt).2]) ∧ Below w.heap.size w w' := by
  have htl : tt.length ≤ 4000 := ((snd_zero tt).1 h0).2.1
  have q := sound_w tt (by omega) w
  rw [h0] at q
  have KP : Hid (∀ W, Below w.heap.size w W → Calls Tryd.prog 15 #[.string (bs d)] W fun e w' => ∃ ad, e = .returned (.slice ad (prt d).length (prt d).length) ∧ Hid (Sl w' ad (prt d)) ∧ Below W.heap.size W w') := fun W hb => parts_w d (by omega) W (hm.below hb)
  have KS : Hid (∀ W, Below w.heap.size w W → Calls Tryd.prog 22 #[.string (bs tt), .string ⟨#[47]⟩] W fun e w' => e = .returned (.slice (some ⟨W.heap.size, 0, none⟩) (spl tt).length (spl tt).length) ∧ Hid (w' = W.alloc (.cells (strs (spl tt)).toArray 9))) := fun W hb => split_w tt (by omega) W (hm.below hb)
  have HR : Hid (rsv d tt = if (stp (prt d) (spl tt)).2 ≠ 0 then ([], (stp (prt d) (spl tt)).2) else (jn (stp (prt d) (spl tt)).1, 0)) := hid (by unfold rsv; rw [h0, if_neg (by decide), if_neg (by simp)])
  have hpl : (prt d).length ≤ 4001 := by
    unfold prt; split
    · simp
    · have := spl_len_le d; omega
  have hsl : (spl tt).length ≤ 4001 := by have := spl_len_le tt; omega
  have hs1 : 1 ≤ (spl tt).length := List.length_pos_iff.2 (spl_ne tt)
  obtain ⟨hfrom, hflen⟩ := stp_from (spl tt) (prt d)
  have hjl : (jn (stp (prt d) (spl tt)).1).length ≤ 140737488355328 := by
    have := jn_len_bound 4000 (stp (prt d) (spl tt)).1 (fun p hp => by
      rcases hfrom p hp with h | h
      · have := prt_mem d p h; omega
      · have := spl_len_mem tt p h; omega)
    have h2 : (stp (prt d) (spl tt)).1.length * (4000 + 1) ≤ 8002 * 4001 := Nat.mul_le_mul (by omega) (by omega)
    omega
  clear hfrom hm h0
  generalize prt d = ps at *
  generalize spl tt = qs at *
  have KJ : Hid (∀ W ad c, (stp ps qs).2 = 0 → Sl W ad (stp ps qs).1 → (stp ps qs).1.length ≤ c → Calls Tryd.prog 17 #[.slice ad (stp ps qs).1.length c] W fun e w' => e = .returned (.string (bs (jn (stp ps qs).1))) ∧ Below W.heap.size W w') := fun W ad c _ hs hc => join_w ad c _ W hs hc (by omega) hjl
  have KW : Hid (∀ W c' g, Aw W g (some ⟨g, 0, none⟩) c' (ps ++ qs) → w.heap.size ≤ g → Calls Tryd.prog 23 #[.slice (some ⟨g, 0, none⟩) ps.length ps.length, .slice (some ⟨g, ps.length, none⟩) qs.length (c' - ps.length)] W fun e w' => ∃ ad' c' len', e = .returned (.tuple #[.slice ad' len' c', .int .i64 (stp ps qs).2]) ∧ Hid ((stp ps qs).2 = 0 → len' = (stp ps qs).1.length ∧ len' ≤ c' ∧ c' ≤ 9223372036854775807 ∧ Sl w' ad' (stp ps qs).1) ∧ Below w.heap.size W w') := fun W c' g hA hg => by
    obtain ⟨r1, r2, r3, r4⟩ := hA.rest
    exact walk_w w.heap.size g ps.length (some ⟨g, 0, none⟩) ps.length ps qs (c' - ps.length) W (hA.part rfl hg) (fun g' e1 e2 => Nat.le_refl _) r1 r2 (by omega) (by omega) (by omega) (by omega) (by omega)
  have KA : Hid (∀ W ad ad2 c2 ty, Sl W ad ps → Sl W ad2 qs → ∃ c' w', (Builtin.append_ #[24, 24] ty #[.slice ad ps.length ps.length, .slice ad2 qs.length c2]).run Tryd.prog W = .ok (.slice (some ⟨W.heap.size, 0, none⟩) (ps.length + qs.length) c') w' ∧ Aw w' W.heap.size (some ⟨W.heap.size, 0, none⟩) c' (ps ++ qs) ∧ Below W.heap.size W w') := fun W ad ad2 c2 ty h1 h2 => append_all ad ad2 ps.length c2 ps qs h1 h2 (by omega) (by omega) ty
  generalize hn : ps.length = n at *
  generalize hm : qs.length = m at *
  go_enter Tryd.func13, Tryd.ntmps13
  go_upto_region 9 with (first
    | (at_builtin; obtain ⟨c4, w4, hrun, hA4, b4⟩ := KA.out w3 ad2 (some ⟨w2.heap.size, 0, none⟩) m 24 sa3 sb3; have b04 := b03.trans (b4.mono b03.size); have HA4 := hid hA4; refine wpList_append_run rfl _ _ 24 24 rfl _ _ _ rfl rfl hrun ?_; clear hrun hA4)
    | (go_at_call 22; refine (KS.out _ b02).mono ?_; rintro e w3 ⟨rfl, HW3⟩; have sa3 : Sl w3 ad2 ps := (by rw [HW3.out]; exact hs2.out.below ((Below.refl _ _).alloc (Nat.le_refl _) _)); have sb3 : Sl w3 (some ⟨w2.heap.size, 0, none⟩) qs := (by rw [HW3.out]; exact split_sl w2 qs); have b03 : Below w.heap.size w w3 := (by rw [HW3.out]; exact b02.alloc b02.size _); clear HW3)
    | (go_at_call 15; refine (KP.out _ b1).mono ?_; rintro e w2 ⟨ad2, rfl, hs2, b2⟩; have b02 := b1.trans (b2.mono b1.size))
    | (go_at_call 21; refine q.mono ?_; rintro e w1 ⟨rfl, b1⟩))
  have hA5 : Aw w4.drew w3.heap.size (some ⟨w3.heap.size, 0, none⟩) c4 (ps ++ qs) := HA4.out
  have hw5 := KW.out w4.drew c4 w3.heap.size hA5 b03.size
  have hr4 := hA5.rest
  rw [hn, hm] at hr4
  have hc1 : n < c4 := by omega
  have hc2 : c4 ≤ 9223372036854775807 := hr4.2.2.2
  have b05 : Below w.heap.size w w4.drew := b04.drew
  clear hA5 HA4 hr4 sa3 sb3
  go_region_with (go_at_call 23; refine hw5.mono ?_; rintro e w6 ⟨ad6, c6, len6, rfl, H6, b6⟩)
  all_goals
    have b06 := b05.trans b6
    by_cases hz : (stp ps qs).2 = 0
    · obtain ⟨rfl, hl6, hc6, hs6⟩ := H6.out hz
      have q7 := KJ.out w6 ad6 c6 hz hs6 hl6
      have HF : Hid (rsv d tt = (jn (stp ps qs).1, 0)) := hid (by rw [HR.out, if_neg (by simp [hz])])
      rw [hz]
      clear HR H6 hw5 hs6
      generalize jn (stp ps qs).1 = J at *
      generalize (stp ps qs).1.length = L at *
      go_wp2_with (go_at_call 17; refine q7.mono ?_; rintro e w7 ⟨rfl, b7⟩)
      go_ret2
      exact ⟨by rw [HF.out]; rfl, b06.trans (b7.mono b06.size)⟩
    · have HF : Hid (rsv d tt = ([], (stp ps qs).2)) := hid (by rw [HR.out, if_pos hz])
      clear HR H6 hw5
      generalize (stp ps qs).2 = z at *
      go_wp2_with fail
      go_ret2
      exact ⟨by rw [HF.out]; rfl, b06⟩

theorem resolve_w (d tt : List UInt8) (hdl : d.length ≤ 4000) (hl : tt.length ≤ 9223372036854775807) (w : World) (hm : Ml w) :
    Calls Tryd.prog 13 #[.string (bs d), .string (bs tt)] w fun e w' => e = .returned (.tuple #[.string (bs (rsv d tt).1), .int .i64 (rsv d tt).2]) ∧ Below w.heap.size w w' := by
  by_cases h0 : snd0 tt = 0
  · exact resolve_ok d tt hdl h0 w hm
  · by_cases h : snd0 tt = 103
    · exact resolve_abs d tt hl h w
    · exact resolve_bad d tt hl h h0 w

end Go.Proofs.YtmeaiplinkodiabDoor
