/-
  Contracts: the document's Split, Join.
-/
import Derived.Test.YtpgiibpalmhhlaaGreatDoorFns
namespace Go.Proofs.YtpgiibpalmhhlaaGreatDoor
open Go.RowKit
open Go.Lib hiding intOf
set_option linter.unusedVariables false
set_option linter.unusedSimpArgs false

/-- bytes put ahead of the first piece -/
def hd1 (p : List UInt8) : List (List UInt8) → List (List UInt8)
  | [] => [p]
  | x :: r => (p ++ x) :: r

theorem hd1_nil (l : List UInt8) : hd1 [] (spl l) = spl l := by
  cases h : spl l with
  | nil => exact absurd h (spl_ne l)
  | cons x r => rfl
theorem hd1_other (p : List UInt8) (c : UInt8) (l : List UInt8) (h : c ≠ 47) : hd1 p (spl (c :: l)) = hd1 (p ++ [c]) (spl l) := by
  obtain ⟨x, r, h1, h2⟩ := spl_other c l h
  rw [h2, h1]
  simp [hd1]
theorem hd1_slash (p l : List UInt8) : hd1 p (spl (47 :: l)) = p :: spl l := by rw [spl_slash]; simp [hd1]
theorem hd1_end (p : List UInt8) : hd1 p (spl []) = [p] := by simp [hd1, spl]

theorem ext_one (l : List UInt8) (i : Nat) (hi : i < l.length) : (bs l).extract i (i + 1) = bs [l[i]] := by
  rw [bs_of ((bs l).extract i (i + 1)), Lib.extract_data, bs_data]
  congr 1
  rw [show i + 1 - i = 1 by omega, List.drop_eq_getElem_cons hi]
  rfl

set_option maxRecDepth 20000 in
set_option maxHeartbeats 4000000 in
theorem rsplit_own (l : List UInt8) (hl : l.length ≤ 5000) (w : World) :
    Calls Tryz.prog 69 #[.string (bs l)] w fun e w' => ∃ v, e = .returned v ∧ w'.ownsRow w.heap.size 9 1 v (parts l).length (strs (parts l)) ∧ Below w.heap.size w w' := by
  have hz := bs_size l
  have HZ : Hid ((bs l).size = l.length) := hz
  have HP : Hid (parts l = (spl l).filter keep) := rfl
  have HX : Hid (∀ (i : Nat) (h : i < l.length), (bs l).extract i (i + 1) = bs [l[i]]) := fun i h => ext_one l i h
  have HG : Hid (∀ (i : Nat) (h : i < l.length) (h' : i < (bs l).size), (bs l)[i]'h' = l[i]'h) := fun i h h' => rfl
  have hS : (bs l).size ≤ 5000 := by omega
  obtain ⟨i0, hi0, hz0, hz1, hz2⟩ := info_parts_str
  clear hz
  generalize hSS : bs l = S at *
  clear hSS
  go_enter Tryz.func69, Tryz.ntmps69
  go_wp2_with fail
  go_loopg [3, 4, 5] (S.size + 1) (fun g t3 t4 t5 wr => ∃ (i : Nat) (out : List (List UInt8)) (p : List UInt8), i + g = S.size + 1 ∧ t5 = .int .i64 i ∧ t4 = .string (bs p) ∧ p.length ≤ i ∧ out.length ≤ i ∧ wr.ownsRow w.heap.size 9 1 t3 out.length (strs out) ∧ Below w.heap.size w wr ∧ Hid (if i ≤ l.length then parts l = out ++ (hd1 p (spl (l.drop i))).filter keep else parts l = out))
  case atStart => exact ⟨0, [], [], by omega, rfl, rfl, by simp, by simp, World.ownsRow_nil _ _ _ _, Below.refl _ _, hid (by rw [if_pos (Nat.zero_le _), HP.out]; rw [List.drop_zero, hd1_nil]; rfl)⟩
  case round =>
    obtain ⟨i, out, p, hig, rfl, rfl, hpl, hol, hown, bb, HD⟩ := hrel
    obtain ⟨av, cv, rfl, hcv, hcm⟩ := own_slice hown
    have HO : Hid (wr.ownsRow w.heap.size 9 1 (.slice av out.length cv) out.length (strs out)) := hown
    clear hown
    have hmax := hcm
    unfold maxLen at hmax
    have tp := bs_toList p
    have zp : (bs p).size ≤ 5000 + i := by rw [bs_size]; omega
    by_cases hle : i ≤ S.size
    · have hD := HD.out
      rw [if_pos (by rw [← HZ.out]; exact hle)] at hD
      have step : ∀ (q : List UInt8) (rest : List (List UInt8)), True := fun _ _ => trivial
      by_cases hlt : i < S.size
      · have hL : i < l.length := by rw [← HZ.out]; exact hlt
        obtain ⟨x, hx⟩ : ∃ x : UInt8, S[i]'hlt = x := ⟨_, rfl⟩
        have hxl : l[i] = x := by rw [← HG.out i hL hlt, hx]
        have hdr : l.drop i = x :: l.drop (i + 1) := by rw [← hxl]; exact List.drop_eq_getElem_cons hL
        rw [hdr] at hD
        by_cases h47 : x = 47
        · subst h47
          rw [hd1_slash] at hD
          have e0 : ((((47 : UInt8).toNat : Nat) : Int) == 47) = true := by decide
          by_cases k : keep p = true
          · have kk : p ≠ [] ∧ p ≠ [46] := by simpa [keep] using k
            have hE : p.isEmpty = false := by simpa using kk.1
            have hDt : (p == [46]) = false := by simpa using kk.2
            rw [List.filter_cons_of_pos k] at hD
            have HD2 : Hid (if i + 1 ≤ l.length then parts l = (out ++ [p]) ++ (hd1 [] (spl (l.drop (i + 1)))).filter keep else parts l = out ++ [p]) := hid (by rw [if_pos (by omega), hd1_nil, hD]; simp)
            clear hD hdr hxl HD kk k
            go_wp2_with (at_builtin; refine wpList_append_own _ rfl _ _ 64 rfl w.heap.size 9 i0 (.string ⟨#[]⟩) 1 16 Tryz.underlying64 hi0 hz0 hz1 hz2 rfl (by decide) _ _ _ rfl (HO.out.alloc _) ⟨wr.heap.size, 0, none⟩ 1 1 [.string (bs p)] rfl rfl ?c1 ?c2 ?c3 ?c4 ?c5 ?_)
            case c1 => exact one_cell _ _ _
            case c2 => intro u hu; simp at hu; subst hu; rfl
            case c3 => unfold maxLen; omega
            case c4 => omega
            case c5 => have := bb.size; simp; omega
            · intro v' w5 hown' hgrow hh
              have bb5 : Below w.heap.size w w5 := (bb.alloc bb.size _).grown hgrow (by have := bb.size; simp; omega) fun k hk => (HO.out.lt k hk).1
              have hO : w5.ownsRow w.heap.size 9 1 v' (out ++ [p]).length (strs (out ++ [p])) := by
                rw [← strs_snoc, List.length_append]
                exact hown'
              clear hown' hgrow hh HO
              go_wp2_with fail
              go_roundg (S.size - i)
              case rel => exact ⟨i + 1, out ++ [p], [], by omega, by simp, rfl, by simp, by simp; omega, hO, bb5, HD2⟩
              case measure => omega
          · rw [List.filter_cons_of_neg k] at hD
            have HD2 : Hid (if i + 1 ≤ l.length then parts l = out ++ (hd1 [] (spl (l.drop (i + 1)))).filter keep else parts l = out) := hid (by rw [if_pos (by omega), hd1_nil, hD])
            by_cases e1 : p = []
            · have hE : p.isEmpty = true := by rw [e1]; rfl
              clear hD hdr hxl HD k e1
              go_wp2_with fail
              go_roundg (S.size - i)
              case rel => exact ⟨i + 1, out, [], by omega, by simp, rfl, by simp, by omega, HO.out, bb, HD2⟩
              case measure => omega
            · have hE : p.isEmpty = false := by simpa using e1
              have hDt : (p == [46]) = true := by
                by_cases e2 : p = [46]
                · simpa using e2
                · exact absurd (by simp [keep, e1, e2]) k
              clear hD hdr hxl HD k e1
              go_wp2_with fail
              go_roundg (S.size - i)
              case rel => exact ⟨i + 1, out, [], by omega, by simp, rfl, by simp, by omega, HO.out, bb, HD2⟩
              case measure => omega
        · rw [hd1_other _ _ _ h47] at hD
          have HD2 : Hid (if i + 1 ≤ l.length then parts l = out ++ (hd1 (p ++ [x]) (spl (l.drop (i + 1)))).filter keep else parts l = out) := hid (by rw [if_pos (by omega), hD])
          have e0 : (((x.toNat : Nat) : Int) == 47) = false := beq_eq_false_iff_ne.2 fun e => h47 (UInt8.toNat_inj.1 (show x.toNat = 47 by omega))
          have hex : S.extract i (i + 1) = bs [x] := by rw [HX.out i hL, hxl]
          have hcat : bs p ++ bs [x] = bs (p ++ [x]) := bs_app _ _
          have z1 : (bs [x]).size = 1 := rfl
          have j1 : (0 : Int) ≤ (i : Int) + 1 := by omega
          have j2 : (i : Int) + 1 ≤ (S.size : Int) := by omega
          have j3 : (i : Int) ≤ (i : Int) + 1 := by omega
          have j4 : (i : Int) ≤ (S.size : Int) := by omega
          clear hD hdr hxl HD h47
          go_wp2_with fail
          go_roundg (S.size - i)
          case rel => exact ⟨i + 1, out, p ++ [x], by omega, by simp, rfl, by simp; omega, by omega, HO.out, bb, HD2⟩
          case measure => omega
      · have hin : i = S.size := by omega
        have hdr : l.drop i = [] := List.drop_of_length_le (by rw [← HZ.out]; omega)
        rw [hdr, hd1_end] at hD
        by_cases k : keep p = true
        · have kk : p ≠ [] ∧ p ≠ [46] := by simpa [keep] using k
          have hE : p.isEmpty = false := by simpa using kk.1
          have hDt : (p == [46]) = false := by simpa using kk.2
          rw [List.filter_cons_of_pos k, List.filter_nil] at hD
          have HD2 : Hid (if i + 1 ≤ l.length then parts l = (out ++ [p]) ++ (hd1 [] (spl (l.drop (i + 1)))).filter keep else parts l = out ++ [p]) := hid (by rw [if_neg (by rw [← HZ.out]; omega), hD])
          clear hD hdr HD kk k hin
          go_wp2_with (at_builtin; refine wpList_append_own _ rfl _ _ 64 rfl w.heap.size 9 i0 (.string ⟨#[]⟩) 1 16 Tryz.underlying64 hi0 hz0 hz1 hz2 rfl (by decide) _ _ _ rfl (HO.out.alloc _) ⟨wr.heap.size, 0, none⟩ 1 1 [.string (bs p)] rfl rfl ?c1 ?c2 ?c3 ?c4 ?c5 ?_)
          case c1 => exact one_cell _ _ _
          case c2 => intro u hu; simp at hu; subst hu; rfl
          case c3 => unfold maxLen; omega
          case c4 => omega
          case c5 => have := bb.size; simp; omega
          · intro v' w5 hown' hgrow hh
            have bb5 : Below w.heap.size w w5 := (bb.alloc bb.size _).grown hgrow (by have := bb.size; simp; omega) fun k hk => (HO.out.lt k hk).1
            have hO : w5.ownsRow w.heap.size 9 1 v' (out ++ [p]).length (strs (out ++ [p])) := by
              rw [← strs_snoc, List.length_append]
              exact hown'
            clear hown' hgrow hh HO
            go_wp2_with fail
            go_roundg (S.size - i)
            case rel => exact ⟨i + 1, out ++ [p], [], by omega, by simp, rfl, by simp, by simp; omega, hO, bb5, HD2⟩
            case measure => omega
        · rw [List.filter_cons_of_neg k, List.filter_nil, List.append_nil] at hD
          have HD2 : Hid (if i + 1 ≤ l.length then parts l = out ++ (hd1 [] (spl (l.drop (i + 1)))).filter keep else parts l = out) := hid (by rw [if_neg (by rw [← HZ.out]; omega), hD])
          by_cases e1 : p = []
          · have hE : p.isEmpty = true := by rw [e1]; rfl
            clear hD hdr HD k e1 hin
            go_wp2_with fail
            go_roundg (S.size - i)
            case rel => exact ⟨i + 1, out, [], by omega, by simp, rfl, by simp, by omega, HO.out, bb, HD2⟩
            case measure => omega
          · have hE : p.isEmpty = false := by simpa using e1
            have hDt : (p == [46]) = true := by
              by_cases e2 : p = [46]
              · simpa using e2
              · exact absurd (by simp [keep, e1, e2]) k
            clear hD hdr HD k e1 hin
            go_wp2_with fail
            go_roundg (S.size - i)
            case rel => exact ⟨i + 1, out, [], by omega, by simp, rfl, by simp, by omega, HO.out, bb, HD2⟩
            case measure => omega
    · have hD := HD.out
      rw [if_neg (by rw [← HZ.out]; exact hle)] at hD
      have HF : Hid (parts l = out) := hD
      clear hD HD
      go_wp2_with fail
      go_ret
      rw [HF.out]
      exact ⟨_, rfl, HO.out, bb⟩

theorem rsplit_w (l : List UInt8) (hl : l.length ≤ 5000) (w : World) :
    Calls Tryz.prog 69 #[.string (bs l)] w fun e w' => ∃ ad c, e = .returned (.slice ad (parts l).length c) ∧ (parts l).length ≤ c ∧ c ≤ 9223372036854775807 ∧ Hid (Sl w' ad (parts l)) ∧ Below w.heap.size w w' := by
  refine (rsplit_own l hl w).mono fun e w' ⟨v, he, ho, hb⟩ => ?_
  obtain ⟨ad, c, rfl, hc, hm, hs⟩ := own_sl ho
  exact ⟨ad, c, he, hc, hm, hs, hb⟩

end Go.Proofs.YtpgiibpalmhhlaaGreatDoor
