/-
  Contract: the document's Resolve.
-/
import Derived.Test.YtmeaiplinkodiabDoorRj
import Derived.Test.YtmeaiplinkodiabDoorRes
import Derived.Test.YtmeaiplinkodiabDoorRel
namespace Go.Proofs.YtmeaiplinkodiabDoor
open Go.RowKit
open Go.Lib hiding intOf
set_option linter.unusedVariables false
set_option linter.unusedSimpArgs false

theorem stp_filter : ∀ (S a : List (List UInt8)), stp a (S.filter keep) = stp a S
  | [], a => rfl
  | p :: r, a => by
    by_cases k : keep p = true
    · rw [List.filter_cons_of_pos k]
      simp only [stp]
      rw [stp_filter r, stp_filter r, stp_filter r]
    · rw [List.filter_cons_of_neg k, stp_filter r, stp_skip _ _ _ (by simpa using k)]

/-- a list copied into a new one -/
theorem append_copy {W : World} (h : Nat) (hh : h < W.heap.size) (a2 : Option Addr) (c2 : Nat) (qs : List (List UInt8)) (h2 : Sl W a2 qs) (hl : qs.length ≤ 100000) (B : Nat) (hB : B ≤ h) (ty : TypeId) :
    ∃ ad' c' w', (Builtin.append_ #[24, 24] ty #[.slice (some ⟨h, 0, none⟩) 0 0, .slice a2 qs.length c2]).run Tryd.prog W = .ok (.slice ad' qs.length c') w' ∧ Aw w' B ad' c' qs ∧ Below W.heap.size W w' := by
  by_cases h0 : qs = []
  · subst h0
    obtain ⟨i, hi, hz0, hz1, hz2⟩ := info_parts_str
    have := run_append_nothing (P := Tryd.prog) W 24 24 ty 9 i Tryd.underlying24 hi (some ⟨h, 0, none⟩) 0 0 (Nat.le_refl _) (.slice a2 0 c2) (by rw [hz1]; exact h2.src c2 (fun _ => rfl))
    exact ⟨some ⟨h, 0, none⟩, 0, W, this, .inr ⟨h, rfl, hB, hh, by simp, by simp, fun i hi => by omega, fun i x hx => by simp at hx⟩, Below.refl _ _⟩
  · have hpos : 1 ≤ qs.length := List.length_pos_iff.2 h0
    obtain ⟨c', w', hrun, hA, hb⟩ := append_all (some ⟨h, 0, none⟩) a2 0 c2 [] qs (.inl rfl) h2 (by simp; omega) (by simpa using hl) ty
    rw [List.nil_append] at hA
    simp only [List.length_nil, Nat.zero_add] at hrun
    refine ⟨_, c', w', hrun, ?_, hb⟩
    rcases hA with ⟨h, _⟩ | ⟨g, e1, e2, e3⟩
    · cases h
    · exact .inr ⟨g, e1, by omega, e3⟩

set_option maxRecDepth 20000 in
set_option maxHeartbeats 4000000 in
theorem rres_ok (d tt : List UInt8) (hdl : d.length ≤ 4000) (h0 : snd0 tt = 0) (hd : parts d = prt d) (w : World) :
    Calls Tryd.prog 14 #[.string (bs d), .string (bs tt)] w fun e w' => e = .returned (.tuple #[.string (bs (rsv d tt).1), .int .i64 (rsv d tt).2]) ∧ Below w.heap.size w w' := by
  have htl : tt.length ≤ 4000 := ((snd_zero tt).1 h0).2.1
  have q := rsound_w tt (by omega) w
  rw [h0] at q
  have K1 : Hid (∀ W, Calls Tryd.prog 16 #[.string (bs d)] W fun e w' => ∃ ad c, e = .returned (.slice ad (parts d).length c) ∧ (parts d).length ≤ c ∧ c ≤ 9223372036854775807 ∧ Hid (Sl w' ad (parts d)) ∧ Below W.heap.size W w') := fun W => rsplit_w d (by omega) W
  have K2 : Hid (∀ W, Calls Tryd.prog 16 #[.string (bs tt)] W fun e w' => ∃ ad c, e = .returned (.slice ad (parts tt).length c) ∧ (parts tt).length ≤ c ∧ c ≤ 9223372036854775807 ∧ Hid (Sl w' ad (parts tt)) ∧ Below W.heap.size W w') := fun W => rsplit_w tt (by omega) W
  have HR : Hid (rsv d tt = if (stp (prt d) (parts tt)).2 ≠ 0 then ([], (stp (prt d) (parts tt)).2) else (jn (stp (prt d) (parts tt)).1, 0)) := hid (by unfold rsv parts; rw [h0, if_neg (by decide), if_neg (by simp), stp_filter])
  have hpl : (parts d).length ≤ 4001 := by have h1 := List.length_filter_le keep (spl d); have := spl_len_le d; unfold parts; omega
  have hsl : (parts tt).length ≤ 4001 := by have h1 := List.length_filter_le keep (spl tt); have := spl_len_le tt; unfold parts; omega
  have HK : Hid (∀ i x, (parts tt)[i]? = some x → keep x = true) := hid (fun i x hx => (List.mem_filter.1 (List.mem_of_getElem? hx)).2)
  have hpm : ∀ p ∈ prt d, p.length ≤ 4000 := fun p hp => by have := prt_mem d p hp; omega
  have hsm : ∀ p ∈ parts tt, p.length ≤ 4000 := fun p hp => by have := spl_len_mem tt p (List.mem_filter.1 hp).1; omega
  rw [hd] at K1 hpl
  obtain ⟨hfrom, hflen⟩ := stp_from (parts tt) (prt d)
  have hjl : (jn (stp (prt d) (parts tt)).1).length ≤ 8002 * 4001 := by
    have := jn_len_bound 4000 (stp (prt d) (parts tt)).1 (fun p hp => by
      rcases hfrom p hp with h | h
      · exact hpm p h
      · exact hsm p h)
    have h2 : (stp (prt d) (parts tt)).1.length * (4000 + 1) ≤ 8002 * 4001 := Nat.mul_le_mul (by omega) (by omega)
    omega
  clear h0 hd hfrom hflen hpm hsm
  generalize parts tt = S at *
  generalize hps : prt d = ps at *
  clear hps
  generalize hn : ps.length = n at *
  generalize hNN : S.length = N at *
  have HN : Hid (S.length = N) := hNN
  clear hNN
  go_enter Tryd.func14, Tryd.ntmps14
  go_wp2_with (first
    | (go_at_call 16; have bb := b1; refine (K2.out _).mono ?_; rintro e w2 ⟨ad2, c2, rfl, hc2, hm2, hs2, b2⟩; have b02 := b1.trans (b2.mono b1.size))
    | (go_at_call 16; refine (K1.out _).mono ?_; rintro e w1 ⟨ad1, c1, rfl, hc1, hm1, hs1, b1⟩)
    | (go_at_call 24; refine q.mono ?_; rintro e w' ⟨rfl, hw⟩; rw [hw]))
  have HS : Hid (∀ W, Below w2.heap.size w2 W → ∀ i x, S[i]? = some x → ∃ b o, ad2 = some ⟨b, o, none⟩ ∧ W.cell? ⟨b, o + i, none⟩ = some (.string (bs x))) := hid (fun W hb i x hx => by
    rcases hs2.out with h | ⟨b, o, h1, h2, h3⟩
    · rw [h] at hx; simp at hx
    · exact ⟨b, o, h1, (hb.cell (p := ⟨b, o + i, none⟩) h2).trans (h3 i x hx)⟩)
  have HA0 : Hid (Sl w2 ad1 ps) := hid (hs1.out.below b2)
  have hww : w.heap.size ≤ w2.heap.size := b02.size
  clear K1 K2 q hs1 hs2
  go_loopg [7, 9] N (fun g t7 t9 wr => ∃ (i : Nat) (ad : Option Addr) (c m : Nat) (qs : List (List UInt8)), i + g = N ∧ t9 = .int .i64 i ∧ t7 = .slice ad m c ∧ m ≤ c ∧ c ≤ 9223372036854775807 ∧ m ≤ 4001 + i ∧ Hid (qs.length = m) ∧ Hid (Sl wr ad qs) ∧ Below w2.heap.size w2 wr ∧ Hid (stp ps S = stp qs (S.drop i)))
  case atStart => exact ⟨0, ad1, c1, n, ps, by omega, rfl, rfl, hc1, hm1, by omega, hn, HA0, Below.refl _ _, hid (by simp)⟩
  case round =>
    clear HA0
    obtain ⟨i, ad, c, m, qs, hig, rfl, rfl, hmc, hcm, hm4, HQ, HA, bb, HD⟩ := hrel
    by_cases hlt : i < N
    · have l1 : i < S.length := by rw [HN.out]; exact hlt
      obtain ⟨x, hx⟩ : ∃ x, S[i]? = some x := ⟨S[i], List.getElem?_eq_getElem _⟩
      obtain ⟨b, o, had, hcell⟩ := HS.out wr bb i x hx
      subst had
      have hD := HD.out
      rw [badOf_step S i x hx] at hD
      have k := HK.out i x hx
      have tx := bs_toList x
      have zx := bs_size x
      clear hx l1
      by_cases d46 : x = [46, 46]
      · have hDD : (x == [46, 46]) = true := by simpa using d46
        subst d46
        by_cases hq0 : qs = []
        · have hm0 : m = 0 := by rw [← HQ.out, hq0]; rfl
          rw [hq0, stp_out] at hD
          have HF : Hid (rsv d tt = ([], 110)) := hid (by rw [HR.out, hD]; rfl)
          have g1 : (m == 0) = true := beq_iff_eq.2 hm0
          have g2 : ((m : Int) == 0) = true := beq_iff_eq.2 (by omega)
          have g3 : (m : Int) = 0 := by omega
          clear hD k HD hq0 hm0 HA HQ
          go_wp2_with fail
          go_ret2
          exact ⟨by rw [HF.out]; rfl, b02.trans (bb.mono hww)⟩
        · rw [stp_ups _ _ hq0] at hD
          have hpos : 1 ≤ m := by rw [← HQ.out]; exact List.length_pos_iff.2 hq0
          have HD2 : Hid (stp ps S = stp qs.dropLast (S.drop (i + 1))) := hD
          have HA2 : Hid (Sl wr ad qs.dropLast) := hid (by
            rw [List.dropLast_eq_take]
            rcases HA.out with h | ⟨b, o, h1, h2, h3⟩
            · exact absurd h hq0
            · refine .inr ⟨b, o, h1, h2, fun i x hx => h3 i x ?_⟩
              rw [List.getElem?_take] at hx
              split at hx
              · exact hx
              · simp at hx)
          obtain ⟨ba, oa, had⟩ : ∃ b o, ad = some ⟨b, o, none⟩ := by
            rcases HA.out with h | ⟨b, o, h, _⟩
            · exact absurd h hq0
            · exact ⟨b, o, h⟩
          subst had
          obtain ⟨m', rfl⟩ : ∃ m', m = m' + 1 := ⟨m - 1, by omega⟩
          have HL : Hid (qs.dropLast.length = m') := hid (by rw [List.length_dropLast, HQ.out]; omega)
          have j1 : (0 : Int) ≤ (m' : Int) := by omega
          have j2 : (m' : Int) ≤ (c : Int) := by omega
          have hm0 : ¬ ((m' : Int) + 1 = 0) := by omega
          have hm0' : (((m' : Int) + 1) == 0) = false := beq_eq_false_iff_ne.2 hm0
          clear hD k HD hq0 HA HQ
          go_wp2_with fail
          go_roundg (N - (i + 1))
          case measure => omega
          case rel => exact ⟨i + 1, some ⟨ba, oa, none⟩, c, m', qs.dropLast, by omega, by simp, rfl, by omega, hcm, by omega, HL, HA2, bb, HD2⟩
      · have hDD : (x == [46, 46]) = false := by simpa using d46
        by_cases g255 : 255 < x.length
        · rw [stp_long _ _ _ k d46 g255] at hD
          have HF : Hid (rsv d tt = ([], 2)) := hid (by rw [HR.out, hD]; rfl)
          clear hD k HD d46 HA HQ
          go_wp2_with fail
          go_ret2
          exact ⟨by rw [HF.out]; rfl, b02.trans (bb.mono hww)⟩
        · rw [stp_into _ _ _ k d46 g255] at hD
          have HD2 : Hid (stp ps S = stp (qs ++ [x]) (S.drop (i + 1))) := hD
          have hm' := HQ.out
          have KC : Hid (∀ ty, ∃ ad' c' w', (Builtin.append_ #[24, 24] ty #[.slice (some ⟨wr.heap.size, 0, none⟩) 0 0, .slice ad m c]).run Tryd.prog (wr.alloc (.cells #[] 9)) = .ok (.slice ad' m c') w' ∧ Aw w' w2.heap.size ad' c' qs ∧ Below (wr.alloc (.cells #[] 9)).heap.size (wr.alloc (.cells #[] 9)) w') := hid (fun ty => by
            have := append_copy (W := wr.alloc (.cells #[] 9)) wr.heap.size (by simp) ad c qs (HA.out.below ((Below.refl _ _).alloc (Nat.le_refl _) _)) (by omega) w2.heap.size bb.size ty
            rwa [hm'] at this)
          obtain ⟨ad3, c3, w3, hrun3, hA3, b3⟩ := KC.out 24
          have bw3 : Below w2.heap.size w2 w3 := (bb.alloc bb.size _).trans (b3.mono (by have := bb.size; simp; omega))
          have h3s : wr.heap.size + 1 ≤ w3.heap.size := by have := b3.size; simpa using this
          have hcell3 : w3.cell? ⟨b, o + i, none⟩ = some (.string (bs x)) := by
            have hb : b < wr.heap.size := World.block_lt_of_cell? _ _ hcell
            exact (b3.cell (p := ⟨b, o + i, none⟩) (by simp; omega)).trans ((((Below.refl wr.heap.size wr).alloc (Nat.le_refl _) _).cell (p := ⟨b, o + i, none⟩) hb).trans hcell)
          have hA4 : Aw (w3.alloc (.cells #[.string (bs x)] 9)) w2.heap.size ad3 c3 qs := hA3.below ((Below.refl _ _).alloc (Nat.le_refl _) _)
          have K4 := append_one w2.heap.size w3.heap.size c3 ad3 c3 qs hA4 (fun g _ _ => Nat.le_refl _) (by simp) ⟨w3.heap.size, 0, none⟩ x (by simp) (by have := bw3.size; simp; omega) (by omega) 24
          rw [hm'] at K4
          obtain ⟨ad5, c5, w5, hrun5, hA5, -, -, b5⟩ := K4
          have bw5 : Below w2.heap.size w2 w5 := (bw3.alloc bw3.size _).trans b5
          have HR3 : Hid _ := hrun3
          have HR5 : Hid _ := hrun5
          have HL5 : Hid ((qs ++ [x]).length = m + 1) := hid (by simp [hm'])
          have HA5 : Hid (Sl w5 ad5 (qs ++ [x])) := hA5.sl
          obtain ⟨le5, lc5⟩ := hA5.le
          rw [List.length_append, hm'] at le5
          clear hD k HD d46 HA HQ KC hrun3 hA3 b3 hA4 hrun5 hA5 b5 hm'
          go_wp2_with (first
            | (at_builtin; refine wpList_append_run rfl _ _ 24 24 rfl _ _ _ rfl rfl HR5.out ?_)
            | (at_builtin; refine wpList_append_run rfl _ _ 24 24 rfl _ _ _ rfl rfl HR3.out ?_))
          go_roundg (N - (i + 1))
          case measure => omega
          case rel => exact ⟨i + 1, ad5, c5, m + 1, qs ++ [x], by omega, by simp, rfl, by simpa using le5, lc5, by omega, HL5, HA5, bw5, HD2⟩
    · have h := HD.out
      rw [List.drop_of_length_le (by rw [HN.out]; omega)] at h
      have hst : stp ps S = (qs, 0) := h
      have hjl2 : (jn qs).length ≤ 8002 * 4001 := by rw [hst] at hjl; exact hjl
      have HF : Hid (rsv d tt = (jn qs, 0)) := hid (by rw [HR.out, hst]; rfl)
      have q9 : Calls Tryd.prog 25 #[.slice ad m c] wr fun e w' => e = .returned (.string (bs (jn qs))) ∧ w' = wr := by
        have hm' := HQ.out
        have := rjoin_w ad c qs wr HA.out (by omega) (by omega) (by omega)
        rwa [hm'] at this
      clear h HD HR hst hjl hjl2
      generalize jn qs = J at *
      go_wp2_with (go_at_call 25; refine q9.mono ?_; rintro e w' ⟨rfl, hw⟩; rw [hw])
      go_ret2
      exact ⟨by rw [HF.out]; rfl, b02.trans (bb.mono hww)⟩

theorem rres_w (d tt : List UInt8) (hdl : d.length ≤ 4000) (hl : tt.length ≤ 9223372036854775807) (hd : parts d = prt d) (w : World) :
    Calls Tryd.prog 14 #[.string (bs d), .string (bs tt)] w fun e w' => e = .returned (.tuple #[.string (bs (rsv d tt).1), .int .i64 (rsv d tt).2]) ∧ Below w.heap.size w w' := by
  by_cases h0 : snd0 tt = 0
  · exact rres_ok d tt hdl h0 hd w
  · have q := rsound_w tt hl w
    by_cases h : snd0 tt = 103
    · rw [h] at q
      have HF : Hid (rsv d tt = ([], 110)) := hid (by unfold rsv; rw [if_pos h])
      clear h h0
      go_enter Tryd.func14, Tryd.ntmps14
      go_wp2_with (go_at_call 24; refine q.mono ?_; rintro e w' ⟨rfl, hw⟩; rw [hw])
      go_ret2
      exact ⟨by rw [HF.out]; rfl, Below.refl _ _⟩
    · have HF : Hid (rsv d tt = ([], snd0 tt)) := hid (by unfold rsv; rw [if_neg h, if_pos h0])
      generalize snd0 tt = z at *
      go_enter Tryd.func14, Tryd.ntmps14
      go_wp2_with (go_at_call 24; refine q.mono ?_; rintro e w' ⟨rfl, hw⟩; rw [hw])
      go_ret2
      exact ⟨by rw [HF.out]; rfl, Below.refl _ _⟩

end Go.Proofs.YtmeaiplinkodiabDoor
