/-
  Plain: what becomes of a store and its contents by extent.Append's steps.
-/
import Derived.Test.YtpjfhfbjdcgbjabInv
namespace Go.Proofs.Ytpjfhfbjdcgbjab
open Go.RowKit
set_option linter.unusedVariables false
set_option linter.unusedSimpArgs false

theorem part_zero (L : List Int) (n : Nat) : part L 0 n = L.take n := by simp [part]

theorem split_last (ids : List Int) (m : Nat) (z : Int) (hm : ids.length = m + 1) (hz : ids[m]? = some z) : ids = ids.take m ++ [z] := by
  have hq : m < ids.length := by omega
  have h1 : ids.drop m = [z] := by
    rw [List.drop_eq_getElem_cons hq, List.drop_of_length_le (by omega)]
    rw [List.getElem?_eq_getElem hq] at hz
    simp at hz
    rw [hz]
  rw [← h1, List.take_append_drop]

theorem count_last (ids : List Int) (m : Nat) (z x : Int) (hm : ids.length = m + 1) (hz : ids[m]? = some z) : ids.count x = (ids.take m).count x + (if z == x then 1 else 0) := by
  conv => lhs; rw [split_last ids m z hm hz]
  rw [List.count_append, List.count_singleton]

theorem count_set_last (ids : List Int) (m : Nat) (y x : Int) (hm : ids.length = m + 1) : (ids.set m y).count x = (ids.take m).count x + (if y == x then 1 else 0) := by
  have := count_last (ids.set m y) m y x (by rw [List.length_set]; exact hm) (by rw [List.getElem?_set_self (by omega)])
  rw [set_take] at this
  exact this

theorem open_split {L : List Int} {ids : List Int} (hl : ids.length = need L.length) (ho : isOpen L.length = true) : ∃ m, ids.length = m + 1 ∧ L.length = 64 * m + L.length % 64 ∧ 0 < L.length % 64 := by
  simp only [isOpen, decide_eq_true_eq] at ho
  refine ⟨L.length / 64, ?_, by omega, ho⟩
  unfold need at hl
  omega

theorem Inv.ownStep {ss ss1 : List Slot} {fr fr1 : List Nat} {ids ids1 L : List Int} {cs : List Ct} (h : Inv ss fr ((ids, L) :: cs)) (ho : OwnStep ss fr ids L.length ss1 fr1 ids1) :
    Inv ss1 fr1 ((ids1, L) :: cs) ∧ (isOpen L.length = true → ∀ (i m : Nat) (s : Slot), ids1.length = m + 1 → ids1[m]? = some (i : Int) → ss1[i]? = some s → s.holds = 1) := by
  have hl0 := h.lies (ids, L) (by simp)
  rcases ho with ⟨hsh, rfl, rfl, rfl⟩ | ⟨hsh, l, j, i, s, k, m, rfl, hm, hmi, hs, hk, rfl, rfl, rfl⟩
  · refine ⟨h, fun hop i m s hm hmi hs => ?_⟩
    have h1 := h.acc i s hs
    have hmem : (i : Int) ∈ ids1 := List.mem_of_getElem? hmi
    have hpos : 0 < tot ((ids1, L) :: cs) (i : Int) := tot_mem _ _ ⟨(ids1, L), by simp, hmem⟩
    have hle : lastHolds ss1 ids1 ≤ 1 := by
      simp only [isShared, hop, Bool.true_and, decide_eq_false_iff_not] at hsh
      omega
    have hla := last_get ids1 m hm
    rw [hmi] at hla
    unfold lastHolds at hle
    rw [← Option.some.inj hla, holdsOf_nat ss1 i s hs] at hle
    omega
  · have hop : isOpen L.length = true := by simp only [isShared, Bool.and_eq_true] at hsh; exact hsh.1
    obtain ⟨m', hm', hLm, hu0⟩ := open_split hl0.len hop
    have : m' = m := by simp only at hm'; omega
    subst this
    obtain ⟨g1, hj⟩ := h.good.take
    have hjl := lt_of_some hj
    have hil := lt_of_some hs
    have hz := h.free j hj
    have hnone := tot_none _ _ hz
    have hij : i ≠ j := by rintro rfl; rw [hs] at hj; cases hj; simp [Slot.none] at hk
    have hs64 : s.bytes.length = 64 := h.good.whole s (mem_of_some hs)
    have hpl : (part s.bytes 0 (L.length % 64)).length = L.length % 64 := part_length _ _ _ (by omega)
    have hsp := splice_zero (zeros 64) (part s.bytes 0 (L.length % 64)) (by rw [zeros_length, hpl]; omega)
    generalize hX : splice (zeros 64) 0 (part s.bytes 0 (L.length % 64)) = X at *
    have hX64 : X.length = 64 := by rw [hsp.2, zeros_length]
    have g2 : Good (ss.set j ⟨X, 1⟩) fr1 := by
      have := g1.set_held (i := j) (s := ⟨zeros 64, 1⟩) (t := ⟨X, 1⟩) (by rw [set_get, if_pos ⟨rfl, hjl⟩]) (by simp) (by simp) (by simp) hX64
      rwa [List.set_set] at this
    have hi2 : (ss.set j ⟨X, 1⟩)[i]? = some s := by rw [set_get, if_neg (fun c => hij c.1)]; exact hs
    have hmost := h.good.most s (mem_of_some hs)
    have g3 : Good ((ss.set j ⟨X, 1⟩).set i ⟨s.bytes, k + 1⟩) fr1 := g2.set_held hi2 (by omega) (by simp) (by simp; omega) hs64
    have get : ∀ x : Nat, ((ss.set j ⟨X, 1⟩).set i ⟨s.bytes, k + 1⟩)[x]? = if x = i then some ⟨s.bytes, k + 1⟩ else if x = j then some ⟨X, 1⟩ else ss[x]? := by
      intro x
      rw [set_get, set_get]
      by_cases e1 : x = i
      · rw [if_pos ⟨e1, by rw [List.length_set]; exact hil⟩, if_pos e1]
      · rw [if_neg (fun c => e1 c.1), if_neg e1]
        by_cases e2 : x = j
        · rw [if_pos ⟨e2, hjl⟩, if_pos e2]
        · rw [if_neg (fun c => e2 c.1), if_neg e2]
    have frame : ∀ (d : List Int), (j : Int) ∉ d → (∀ z ∈ d, Held ss z) → (∀ z ∈ d, blkB ((ss.set j ⟨X, 1⟩).set i ⟨s.bytes, k + 1⟩) z = blkB ss z) ∧ ∀ z ∈ d, Held ((ss.set j ⟨X, 1⟩).set i ⟨s.bytes, k + 1⟩) z := by
      intro d hd hh
      constructor
      · intro z hzd
        obtain ⟨x, t, rfl, ht, _⟩ := hh z hzd
        have hxj : x ≠ j := by rintro rfl; exact hd hzd
        unfold blkB
        rw [Int.toNat_natCast, get, if_neg hxj]
        by_cases e : x = i
        · subst e; rw [if_pos rfl, hs]; rfl
        · rw [if_neg e]
      · intro z hzd
        obtain ⟨x, t, rfl, ht, hth⟩ := hh z hzd
        have hxj : x ≠ j := by rintro rfl; exact hd hzd
        by_cases e : x = i
        · subst e; exact ⟨x, _, rfl, by rw [get, if_pos rfl], by simp⟩
        · exact ⟨x, t, rfl, by rw [get, if_neg e, if_neg hxj]; exact ht, hth⟩
    have hjn : (j : Int) ∉ ids := hnone (ids, L) (by simp)
    obtain ⟨fb, fh⟩ := frame ids hjn hl0.held
    refine ⟨⟨g3, fun d hd => ?_, fun x t ht => ?_⟩, fun _ i' m2 s' hm2 hmi2 hs' => ?_⟩
    · rcases List.mem_cons.1 hd with rfl | hd
      · have hheld : ∀ z ∈ ids.set m' (j : Int), Held ((ss.set j ⟨X, 1⟩).set i ⟨s.bytes, k + 1⟩) z := by
          intro z hz
          rcases List.mem_or_eq_of_mem_set hz with h1 | rfl
          · exact fh z h1
          · exact ⟨j, ⟨X, 1⟩, rfl, by rw [get, if_neg hij.symm, if_pos rfl], by simp⟩
        refine lies_of_last hheld g3.whole m' (L.length % 64) (by rw [List.length_set]; exact hm) hu0 (by omega) (j : Int) (by rw [List.getElem?_set_self (by omega)]) ?_
        have e1 := lies_last hl0 h.good.whole m' (L.length % 64) hm hLm (by omega) (i : Int) hmi
        have e2 : blkB ((ss.set j ⟨X, 1⟩).set i ⟨s.bytes, k + 1⟩) (j : Int) = X := by
          unfold blkB; rw [Int.toNat_natCast, get, if_neg hij.symm, if_pos rfl]; rfl
        have e3 : blkB ss (i : Int) = s.bytes := by unfold blkB; rw [Int.toNat_natCast, hs]; rfl
        simp only at e1
        rw [set_take, bytesOf_congr (fun z hz => fb z (List.mem_of_mem_take hz)), e2]
        conv => lhs; rw [e1, e3]
        have := hsp.1
        rw [hpl, part_zero] at this
        rw [this]
      · obtain ⟨fb', fh'⟩ := frame d.1 (hnone d (by simp [hd])) (h.lies d (by simp [hd])).held
        have hd' := h.lies d (by simp [hd])
        exact ⟨hd'.len, fh', by rw [bytesOf_congr fb']; exact hd'.bytes⟩
    · have hc1 := count_set_last ids m' (j : Int) (x : Int) hm
      have hc2 := count_last ids m' (i : Int) (x : Int) hm hmi
      rw [get] at ht
      simp only [tot] at hz ⊢
      rw [hc1]
      have hzt : ids.count (j : Int) = 0 ∧ tot cs (j : Int) = 0 := by omega
      by_cases e1 : x = i
      · subst e1
        rw [if_pos rfl] at ht
        cases ht
        have := h.acc x s hs
        simp only [tot] at this
        have e' : ((j : Int) == (x : Int)) = false := by simp; omega
        rw [e']
        simp at hc2 ⊢
        omega
      · rw [if_neg e1] at ht
        by_cases e2 : x = j
        · subst e2
          rw [if_pos rfl] at ht
          cases ht
          have e' : ((i : Int) == (x : Int)) = false := by simp; omega
          rw [e'] at hc2
          simp at hc2 ⊢
          omega
        · rw [if_neg e2] at ht
          have := h.acc x t ht
          simp only [tot] at this
          have e3 : ((j : Int) == (x : Int)) = false := by simp; omega
          have e4 : ((i : Int) == (x : Int)) = false := by simp; omega
          rw [e3]
          rw [e4] at hc2
          simp at hc2 ⊢
          omega
    · have : m2 = m' := by rw [List.length_set] at hm2; omega
      subst this
      rw [List.getElem?_set_self (by omega)] at hmi2
      have : i' = j := by have := Option.some.inj hmi2; omega
      subst this
      rw [get, if_neg hij.symm, if_pos rfl] at hs'
      cases hs'
      rfl

theorem splice_take (L c : List Int) (u : Nat) (h : u + c.length ≤ L.length) : (splice L u c).take (u + c.length) = L.take u ++ c := by
  have l : (L.take u ++ c).length = u + c.length := by rw [List.length_append, List.length_take]; omega
  rw [show splice L u c = (L.take u ++ c) ++ L.drop (u + c.length) by simp [splice]]
  rw [List.take_append_of_le_length (by omega), List.take_of_length_le (by omega)]

theorem Inv.openStep {ss : List Slot} {fr : List Nat} {ids L : List Int} {cs : List Ct} (h : Inv ss fr ((ids, L) :: cs)) (hop : isOpen L.length = true) (i m : Nat) (s : Slot) (hm : ids.length = m + 1) (hmi : ids[m]? = some (i : Int)) (hs : ss[i]? = some s) (h1 : s.holds = 1) (c : List Int) (hc : L.length % 64 + c.length ≤ 64) :
    Inv (ss.set i ⟨splice s.bytes (L.length % 64) c, s.holds⟩) fr ((ids, L ++ c) :: cs) := by
  have hl0 := h.lies (ids, L) (by simp)
  obtain ⟨m', hm', hLm, hu0⟩ := open_split hl0.len hop
  have : m' = m := by simp only at hm'; omega
  subst this
  have hil := lt_of_some hs
  have hs64 : s.bytes.length = 64 := h.good.whole s (mem_of_some hs)
  have hX64 : (splice s.bytes (L.length % 64) c).length = 64 := by rw [length_splice _ _ _ (by omega)]; exact hs64
  have g2 := h.good.set_held hs (by omega) (t := ⟨splice s.bytes (L.length % 64) c, s.holds⟩) (by simp; omega) (by simp; omega) hX64
  have hacc := h.acc i s hs
  have hc2 := count_last ids m' (i : Int) (i : Int) hm hmi
  simp only [tot] at hacc
  simp at hc2
  have hno1 : (i : Int) ∉ ids.take m' := by
    intro hh
    have := List.count_pos_iff.2 hh
    omega
  have hno2 := tot_none cs (i : Int) (by omega)
  have frame : ∀ (d : List Int), (i : Int) ∉ d → ∀ z ∈ d, Held ss z → blkB (ss.set i ⟨splice s.bytes (L.length % 64) c, s.holds⟩) z = blkB ss z ∧ Held (ss.set i ⟨splice s.bytes (L.length % 64) c, s.holds⟩) z := by
    intro d hd z hz hh
    obtain ⟨x, t, rfl, ht, hth⟩ := hh
    have hxi : x ≠ i := by rintro rfl; exact hd hz
    have e : (ss.set i ⟨splice s.bytes (L.length % 64) c, s.holds⟩)[x]? = ss[x]? := by rw [set_get, if_neg (fun c => hxi c.1)]
    exact ⟨by unfold blkB; rw [Int.toNat_natCast, e], x, t, rfl, by rw [e]; exact ht, hth⟩
  refine ⟨g2, fun d hd => ?_, fun x t ht => ?_⟩
  · rcases List.mem_cons.1 hd with rfl | hd
    · have hheld : ∀ z ∈ ids, Held (ss.set i ⟨splice s.bytes (L.length % 64) c, s.holds⟩) z := by
        intro z hz
        by_cases e : z = (i : Int)
        · subst e
          exact ⟨i, _, rfl, by rw [set_get, if_pos ⟨rfl, hil⟩], by simp; omega⟩
        · rw [split_last ids m' _ hm hmi] at hz
          rcases List.mem_append.1 hz with h2 | h2
          · exact (frame _ hno1 z h2 (hl0.held z (List.mem_of_mem_take h2))).2
          · simp at h2; exact absurd h2 e
      refine lies_of_last hheld g2.whole m' (L.length % 64 + c.length) hm (by simp only at hu0; omega) hc (i : Int) hmi ?_
      have e1 := lies_last hl0 h.good.whole m' (L.length % 64) hm hLm (by omega) (i : Int) hmi
      have e2 : blkB (ss.set i ⟨splice s.bytes (L.length % 64) c, s.holds⟩) (i : Int) = splice s.bytes (L.length % 64) c := by
        unfold blkB; rw [Int.toNat_natCast, set_get, if_pos ⟨rfl, hil⟩]; rfl
      have e3 : blkB ss (i : Int) = s.bytes := by unfold blkB; rw [Int.toNat_natCast, hs]; rfl
      simp only at e1
      rw [bytesOf_congr (fun z hz => (frame _ hno1 z hz (hl0.held z (List.mem_of_mem_take hz))).1), e2, splice_take _ _ _ (by omega), ← List.append_assoc]
      rw [e3] at e1
      exact congrArg (· ++ c) e1
    · have hd' := h.lies d (by simp [hd])
      have hnd := hno2 d hd
      exact ⟨hd'.len, fun z hz => (frame d.1 hnd z hz (hd'.held z hz)).2, by rw [bytesOf_congr (fun z hz => (frame d.1 hnd z hz (hd'.held z hz)).1)]; exact hd'.bytes⟩
  · rw [set_get] at ht
    by_cases e : x = i
    · subst e
      rw [if_pos ⟨rfl, hil⟩] at ht
      cases ht
      exact h.acc x s hs
    · rw [if_neg (fun c => e c.1)] at ht
      exact h.acc x t ht

theorem Inv.putAll {cs : List Ct} : ∀ (m : Nat) (ss : List Slot) (fr : List Nat) (ids L b : List Int), Inv ss fr ((ids, L) :: cs) → m = need b.length → m ≤ fr.length → (b.length = 0 ∨ L.length % 64 = 0) →
    ∀ ss3 fr3 ids3, Go.Proofs.Ytpjfhfbjdcgbjab.putAll m ss fr ids b = (ss3, fr3, ids3) → Inv ss3 fr3 ((ids3, L ++ b) :: cs) ∧ fr3.length + m = fr.length
  | 0, ss, fr, ids, L, b, h, hm, hf, hb, ss3, fr3, ids3, e => by
    have hb0 : b = [] := by
      apply List.eq_nil_of_length_eq_zero
      unfold need at hm; omega
    subst hb0
    simp only [Go.Proofs.Ytpjfhfbjdcgbjab.putAll, Prod.mk.injEq] at e
    obtain ⟨rfl, rfl, rfl⟩ := e
    rw [List.append_nil]
    exact ⟨h, by omega⟩
  | m + 1, ss, fr, ids, L, b, h, hm, hf, hb, ss3, fr3, ids3, e => by
    have hne : fr ≠ [] := by rintro rfl; simp at hf
    obtain ⟨l, j, rfl⟩ : ∃ l j, fr = l ++ [j] := ⟨fr.dropLast, fr.getLast hne, (List.dropLast_concat_getLast hne).symm⟩
    have hb0 : 0 < b.length := by unfold need at hm; omega
    have hL : L.length % 64 = 0 := by omega
    have h2 := h.put (b.take 64) (by rw [List.length_take]; omega) (by rw [List.length_take]; omega) hL
    simp only [Go.Proofs.Ytpjfhfbjdcgbjab.putAll] at e
    simp at e
    have := Inv.putAll m _ l _ (L ++ b.take 64) (b.drop 64) h2 (by rw [List.length_drop]; unfold need at *; omega) (by simp at hf; omega) (by
      rw [List.length_drop, List.length_append, List.length_take]; omega) ss3 fr3 ids3 (by simpa using e)
    rw [List.append_assoc, List.take_append_drop] at this
    exact ⟨this.1, by simp; omega⟩

/-- extent.Append, as a whole -/
theorem Inv.append {ss ss1 ss2 ss3 : List Slot} {fr fr1 fr3 : List Nat} {ids ids1 ids3 L b b2 : List Int} {cs : List Ct} (h : Inv ss fr ((ids, L) :: cs)) (hc : canCode ss fr ids L.length b.length = 0)
    (h1 : OwnStep ss fr ids L.length ss1 fr1 ids1) (h2 : OpenStep ss1 ids1 L.length b ss2 b2) (h3 : Go.Proofs.Ytpjfhfbjdcgbjab.putAll (need b2.length) ss2 fr1 ids1 b2 = (ss3, fr3, ids3)) :
    Inv ss3 fr3 ((ids3, L ++ b) :: cs) ∧ (fr3.length : Int) = (fr.length : Int) - ((need (L.length + b.length) : Int) - (need L.length : Int)) - (if isShared ss ids L.length then 1 else 0) := by
  obtain ⟨i1, ih⟩ := h.ownStep h1
  obtain ⟨z1, z2, z3⟩ := can_zero hc
  have hlen := (h.lies (ids, L) (by simp)).len
  simp only at hlen
  have hfr1 : (fr1.length : Int) = (fr.length : Int) - (if isShared ss ids L.length then 1 else 0) := by
    rcases h1 with ⟨e, rfl, rfl, rfl⟩ | ⟨e, l, j, i, s, k, m, rfl, _, _, _, _, rfl, rfl, rfl⟩
    · rw [e]; simp
    · rw [e]; simp
  rcases h2 with ⟨ho, rfl, rfl⟩ | ⟨ho, i, m, s, hm, hmi, hs, hh, rfl, rfl⟩
  · have hmod : L.length % 64 = 0 := by simp only [isOpen, decide_eq_false_iff_not] at ho; omega
    have := Inv.putAll (need b2.length) ss2 fr1 ids1 L b2 i1 rfl (by unfold need at *; omega) (.inr hmod) ss3 fr3 ids3 h3
    refine ⟨this.1, ?_⟩
    have := this.2
    unfold need at *; omega
  · have hmod : 0 < L.length % 64 := by simpa [isOpen] using ho
    have hs1 := ih ho i m s hm hmi hs
    have htl : (b.take (min b.length (64 - L.length % 64))).length = min b.length (64 - L.length % 64) := by rw [List.length_take]; omega
    have i2 := i1.openStep ho i m s hm hmi hs hs1 (b.take (min b.length (64 - L.length % 64))) (by rw [htl]; omega)
    have := Inv.putAll (need (b.drop (min b.length (64 - L.length % 64))).length) _ fr1 ids1 _ _ i2 rfl (by rw [List.length_drop]; unfold need at *; omega) (by rw [List.length_drop, List.length_append, htl]; omega) ss3 fr3 ids3 h3
    rw [List.append_assoc, List.take_append_drop] at this
    refine ⟨this.1, ?_⟩
    have := this.2
    rw [List.length_drop] at this
    unfold need at *; omega

end Go.Proofs.Ytpjfhfbjdcgbjab
