/-
  Contract: target.walk.
-/
import Derived.Test.YtmeaiplinkodiabDoorAw2
import Derived.Deep.LoopGhost
namespace Go.Proofs.YtmeaiplinkodiabDoor
open Go.RowKit
open Go.Lib hiding intOf
set_option linter.unusedVariables false
set_option linter.unusedSimpArgs false

theorem stp_skip (a r : List (List UInt8)) (p : List UInt8) (h : keep p = false) : stp a (p :: r) = stp a r := by simp [stp, h]
theorem stp_out (r : List (List UInt8)) : stp [] ([46, 46] :: r) = ([], 110) := by simp [stp, keep]
theorem stp_ups (a r : List (List UInt8)) (h : a ≠ []) : stp a ([46, 46] :: r) = stp a.dropLast r := by simp [stp, keep, h]
theorem stp_long (a r : List (List UInt8)) (p : List UInt8) (h : keep p = true) (h2 : p ≠ [46, 46]) (h3 : 255 < p.length) : stp a (p :: r) = ([], 2) := by simp [stp, h, h2, h3]
theorem stp_into (a r : List (List UInt8)) (p : List UInt8) (h : keep p = true) (h2 : p ≠ [46, 46]) (h3 : ¬ 255 < p.length) : stp a (p :: r) = stp (a ++ [p]) r := by
  simp [stp, h, h2, h3]

set_option maxRecDepth 20000 in
set_option maxHeartbeats 4000000 in
theorem walk_w (B gw n : Nat) (ad : Option Addr) (c : Nat) (ps : List (List UInt8)) (S : List (List UInt8)) (C : Nat) (w : World) (h : Aw w B ad c ps) (hsep : ∀ g, ad = some ⟨g, 0, none⟩ → g = gw → c ≤ n)
    (hS : ∀ i x, S[i]? = some x → w.cell? ⟨gw, n + i, none⟩ = some (.string (bs x))) (hgw : gw < w.heap.size) (hB : B ≤ w.heap.size) (hSl : S.length ≤ 5000) (hC : S.length ≤ C) (hC2 : C ≤ 9223372036854775807) (hpl : ps.length ≤ 5000) :
    Calls Tryd.prog 23 #[.slice ad ps.length c, .slice (some ⟨gw, n, none⟩) S.length C] w fun e w' => ∃ ad' c' len', e = .returned (.tuple #[.slice ad' len' c', .int .i64 (stp ps S).2]) ∧ ((stp ps S).2 = 0 → len' = (stp ps S).1.length ∧ len' ≤ c' ∧ c' ≤ 9223372036854775807 ∧ Sl w' ad' (stp ps S).1) ∧ Below B w w' := by
  have HS : Hid (∀ W : World, (∀ o, n ≤ o → W.cell? ⟨gw, o, none⟩ = w.cell? ⟨gw, o, none⟩) → ∀ i x, S[i]? = some x → W.cell? ⟨gw, n + i, none⟩ = some (.string (bs x))) := fun W hW i x hx => (hW _ (by omega)).trans (hS i x hx)
  have HA : Hid (Aw w B ad c ps) := h
  have HSp : Hid (∀ g, ad = some ⟨g, 0, none⟩ → g = gw → c ≤ n) := hsep
  clear hS h hsep
  generalize hNN : S.length = N at *
  have HN : Hid (S.length = N) := hNN
  clear hNN
  go_enter Tryd.func23, Tryd.ntmps23
  go_wp2_with fail
  go_step3
  go_wp2_with fail
  go_step3
  go_wp2_with fail
  go_loopg [0, 6, 11] N (fun g t0 t6 t11 wr => ∃ (i : Nat) (ad : Option Addr) (c : Nat) (qs : List (List UInt8)), i + g = N ∧ t11 = .int .i64 i ∧ t6 = .int .i64 0 ∧ t0 = .slice ad qs.length c ∧ Hid (Aw wr B ad c qs) ∧ Hid (∀ g, ad = some ⟨g, 0, none⟩ → g = gw → c ≤ n) ∧ Hid (∀ o, n ≤ o → wr.cell? ⟨gw, o, none⟩ = w.cell? ⟨gw, o, none⟩) ∧ Below B w wr ∧ qs.length ≤ 5000 + i ∧ Hid (stp ps S = stp qs (S.drop i)))
  case atStart => exact ⟨0, ad, c, ps, by omega, rfl, rfl, rfl, HA, HSp, hid (fun o _ => rfl), Below.refl _ _, by omega, hid (by simp)⟩
  case round =>
    clear HA HSp
    obtain ⟨i, ad, c, qs, hig, rfl, rfl, rfl, HA, HSp, HK, bb, hql, HD⟩ := hrel
    have hwr : w.heap.size ≤ wr.heap.size := bb.size
    obtain ⟨hqc, hcm⟩ := HA.out.le
    by_cases hlt : i < N
    · have l1 : i < S.length := by rw [HN.out]; exact hlt
      obtain ⟨x, hx⟩ : ∃ x, S[i]? = some x := ⟨S[i], List.getElem?_eq_getElem _⟩
      have hcell := HS.out wr HK.out i x hx
      have hD := HD.out
      rw [badOf_step S i x hx] at hD
      have tx := bs_toList x
      have zx := bs_size x
      clear hx l1
      by_cases k : keep x = true
      · have kk : x ≠ [] ∧ x ≠ [46] := by simpa [keep] using k
        have hE : x.isEmpty = false := by simpa using kk.1
        have hDt : (x == [46]) = false := by simpa using kk.2
        by_cases d : x = [46, 46]
        · have hDD : (x == [46, 46]) = true := by simpa using d
          subst d
          by_cases hq0 : qs = []
          · subst hq0
            rw [stp_out] at hD
            have HF : Hid ((stp ps S).2 = 110) := hid (by rw [hD])
            rw [List.length_nil] at *
            clear hD k kk HD
            go_wp2_with fail
            try simp only [Exit.noGoto, Exit.inBlock, Exit.then]
            go_ret2
            exact ⟨_, _, _, by rw [HF.out]; rfl, fun h => by rw [HF.out] at h; exact absurd h (by decide), bb⟩
          · rw [stp_ups _ _ hq0] at hD
            have hpos : 1 ≤ qs.length := List.length_pos_iff.2 hq0
            have hdl : qs.dropLast.length = qs.length - 1 := List.length_dropLast
            have HD2 : Hid (stp ps S = stp qs.dropLast (S.drop (i + 1))) := hD
            have HA2 : Hid (Aw wr B ad c qs.dropLast) := hid (by rw [List.dropLast_eq_take]; exact HA.out.take _)
            obtain ⟨ga, had⟩ : ∃ g, ad = some ⟨g, 0, none⟩ := by
              rcases HA.out with ⟨_, h, _⟩ | ⟨g, h, _⟩
              · exact absurd h hq0
              · exact ⟨g, h⟩
            subst had
            generalize hq : qs.dropLast = qd at *
            generalize qs.length = m at *
            obtain ⟨m', rfl⟩ : ∃ m', m = m' + 1 := ⟨m - 1, by omega⟩
            rw [Nat.add_sub_cancel] at hdl
            have HL : Hid (qd.length = m') := hdl
            have j1 : (0 : Int) ≤ (m' : Int) := by omega
            have j2 : (m' : Int) ≤ (c : Int) := by omega
            have hm0 : ¬ ((m' : Int) + 1 = 0) := by omega
            have hm0' : (((m' : Int) + 1) == 0) = false := beq_eq_false_iff_ne.2 hm0
            clear hD k kk HD hq0 hdl hq HA
            go_wp2_with fail
            go_roundg (N - (i + 1))
            case measure => omega
            case rel => exact ⟨i + 1, some ⟨ga, 0, none⟩, c, qd, by omega, by simp, rfl, by rw [HL.out], HA2, HSp, HK, bb, by rw [HL.out]; omega, HD2⟩
        · have hDD : (x == [46, 46]) = false := by simpa using d
          by_cases g255 : 255 < x.length
          · rw [stp_long _ _ _ k d g255] at hD
            have HF : Hid ((stp ps S).2 = 2) := hid (by rw [hD])
            clear hD k kk HD d
            go_wp2_with fail
            try simp only [Exit.noGoto, Exit.inBlock, Exit.then]
            go_ret2
            exact ⟨_, _, _, by rw [HF.out]; rfl, fun h => by rw [HF.out] at h; exact absurd h (by decide), bb⟩
          · rw [stp_into _ _ _ k d g255] at hD
            have HD2 : Hid (stp ps S = stp (qs ++ [x]) (S.drop (i + 1))) := hD
            have HAP : Hid (∀ ty, ∃ ad' c' w', (Builtin.append_ #[24, 24] ty #[.slice ad qs.length c, .slice (some ⟨wr.heap.size, 0, none⟩) 1 1]).run Tryd.prog (wr.alloc (.cells #[.string (bs x)] 9)) = .ok (.slice ad' (qs.length + 1) c') w' ∧ Aw w' B ad' c' (qs ++ [x]) ∧ (∀ g, ad' = some ⟨g, 0, none⟩ → g = gw → c' ≤ n) ∧ (∀ o, n ≤ o → w'.cell? ⟨gw, o, none⟩ = (wr.alloc (.cells #[.string (bs x)] 9)).cell? ⟨gw, o, none⟩) ∧ Below B (wr.alloc (.cells #[.string (bs x)] 9)) w') := hid (fun ty =>
              append_one B gw n ad c qs (HA.out.below ((Below.refl _ _).alloc (Nat.le_refl _) _)) HSp.out (by simp; omega) ⟨wr.heap.size, 0, none⟩ x (by simp) (by simp; omega) (by omega) ty)
            have HK3 : Hid (∀ o, n ≤ o → (wr.alloc (.cells #[.string (bs x)] 9)).cell? ⟨gw, o, none⟩ = w.cell? ⟨gw, o, none⟩) := hid (fun o ho => (((Below.refl wr.heap.size wr).alloc (Nat.le_refl _) _).cell (p := ⟨gw, o, none⟩) (by show gw < wr.heap.size; omega)).trans (HK.out o ho))
            have bb3 : Below B w (wr.alloc (.cells #[.string (bs x)] 9)) := bb.alloc (by omega) _
            clear hD k kk HD d
            obtain ⟨ad', c', w', hrun, a1, a2, a3, a4⟩ := HAP.out 24
            have HA4 : Hid (Aw w' B ad' c' (qs ++ [x])) := a1
            have HS4 : Hid (∀ g, ad' = some ⟨g, 0, none⟩ → g = gw → c' ≤ n) := a2
            have HK4 : Hid (∀ o, n ≤ o → w'.cell? ⟨gw, o, none⟩ = w.cell? ⟨gw, o, none⟩) := hid (fun o ho => (a3 o ho).trans (HK3.out o ho))
            have bb4 : Below B w w' := bb3.trans a4
            have HR : Hid _ := hrun
            clear a1 a2 a3 a4 hrun HAP HK3
            go_wp2_with (at_builtin; refine wpList_append_run rfl _ _ 24 24 rfl _ _ _ rfl rfl HR.out ?_)
            go_roundg (N - (i + 1))
            case measure => omega
            case rel => exact ⟨i + 1, ad', c', qs ++ [x], by omega, by simp, rfl, by simp, HA4, HS4, HK4, bb4, by simp; omega, HD2⟩
      · have k' : keep x = false := by simpa using k
        rw [stp_skip _ _ _ k'] at hD
        have HD2 : Hid (stp ps S = stp qs (S.drop (i + 1))) := hD
        by_cases e1 : x = []
        · have hE : x.isEmpty = true := by rw [e1]; rfl
          clear hD k k' e1 HD
          go_wp2_with fail
          go_roundg (N - (i + 1))
          case measure => omega
          case rel => exact ⟨i + 1, ad, c, qs, by omega, by simp, rfl, rfl, HA, HSp, HK, bb, by omega, HD2⟩
        · have hE : x.isEmpty = false := by simpa using e1
          have hDt : (x == [46]) = true := by
            by_cases e2 : x = [46]
            · simpa using e2
            · exact absurd (by simp [keep, e1, e2]) k
          clear hD k k' e1 HD
          go_wp2_with fail
          go_roundg (N - (i + 1))
          case measure => omega
          case rel => exact ⟨i + 1, ad, c, qs, by omega, by simp, rfl, rfl, HA, HSp, HK, bb, by omega, HD2⟩
    · have h := HD.out
      rw [List.drop_of_length_le (by rw [HN.out]; omega)] at h
      have HF : Hid (stp ps S = (qs, 0)) := h
      clear h HD
      go_wp2_with fail
      try simp only [Exit.noGoto, Exit.inBlock, Exit.then]
      go_ret2
      exact ⟨_, _, _, by rw [HF.out]; rfl, fun _ => by rw [HF.out]; exact ⟨rfl, hqc, hcm, HA.out.sl⟩, bb⟩

end Go.Proofs.YtmeaiplinkodiabDoor
