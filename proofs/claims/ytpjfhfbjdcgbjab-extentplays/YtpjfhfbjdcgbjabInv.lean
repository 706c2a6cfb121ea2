/-
  Plain: a store and all the contents that lie in it: each block is held as often as contents stand in it.
-/
import Derived.Test.YtpjfhfbjdcgbjabLies
namespace Go.Proofs.Ytpjfhfbjdcgbjab
open Go.RowKit
set_option linter.unusedVariables false
set_option linter.unusedSimpArgs false

abbrev Ct := List Int × List Int

def tot : List Ct → Int → Nat
  | [], _ => 0
  | c :: r, z => c.1.count z + tot r z

structure Inv (ss : List Slot) (fr : List Nat) (cs : List Ct) : Prop where
  good : Good ss fr
  lies : ∀ c ∈ cs, Lies ss c.1 c.2
  acc : ∀ (i : Nat) (s : Slot), ss[i]? = some s → s.holds = tot cs (i : Int)

theorem tot_mem : ∀ (cs : List Ct) (z : Int), (∃ c ∈ cs, z ∈ c.1) → 0 < tot cs z
  | [], z, ⟨c, h, _⟩ => by simp at h
  | d :: r, z, ⟨c, h, hz⟩ => by
    simp only [tot]
    rcases List.mem_cons.1 h with rfl | h
    · have := List.count_pos_iff.2 hz; omega
    · have := tot_mem r z ⟨c, h, hz⟩; omega

theorem tot_none : ∀ (cs : List Ct) (z : Int), tot cs z = 0 → ∀ c ∈ cs, z ∉ c.1 := by
  intro cs z h c hc hz
  have := tot_mem cs z ⟨c, hc, hz⟩
  omega

theorem tot_append : ∀ (a b : List Ct) (z : Int), tot (a ++ b) z = tot a z + tot b z
  | [], b, z => by simp [tot]
  | c :: r, b, z => by simp [tot, tot_append r b z]; omega

theorem bytesOf_congr {ss ss' : List Slot} : ∀ {ids : List Int}, (∀ z ∈ ids, blkB ss' z = blkB ss z) → bytesOf ss' ids = bytesOf ss ids
  | [], _ => rfl
  | z :: r, h => by
    have := bytesOf_congr (ids := r) (fun x hx => h x (by simp [hx]))
    unfold bytesOf at *
    rw [List.flatMap_cons, List.flatMap_cons, this, h z (by simp)]

/-- contents whose blocks have the bytes that they had -/
theorem lies_frame {ss ss' : List Slot} {ids L : List Int} (h : Lies ss ids L) (hf : ∀ (i : Nat) (s : Slot), (i : Int) ∈ ids → ss[i]? = some s → ∃ s', ss'[i]? = some s' ∧ s'.bytes = s.bytes ∧ s'.holds ≠ 0) : Lies ss' ids L := by
  have hb : ∀ z ∈ ids, blkB ss' z = blkB ss z := by
    intro z hz
    obtain ⟨i, s, rfl, hs, _⟩ := h.held z hz
    obtain ⟨s', h1, h2, _⟩ := hf i s hz hs
    unfold blkB
    rw [Int.toNat_natCast, hs, h1]
    simp [h2]
  have hbb : bytesOf ss' ids = bytesOf ss ids := bytesOf_congr hb
  refine ⟨h.len, fun z hz => ?_, by rw [hbb]; exact h.bytes⟩
  obtain ⟨i, s, rfl, hs, _⟩ := h.held z hz
  obtain ⟨s', h1, _, h3⟩ := hf i s hz hs
  exact ⟨i, s', rfl, h1, h3⟩

/-- the bytes of a content whose last block is begun -/
theorem lies_last {ss : List Slot} {ids L : List Int} (h : Lies ss ids L) (hw : Whole ss) (m u : Nat) (hm : ids.length = m + 1) (hu : L.length = 64 * m + u) (hu1 : u ≤ 64) (z : Int) (hz : ids[m]? = some z) : L = bytesOf ss (ids.take m) ++ (blkB ss z).take u := by
  have e : ids = ids.take m ++ [z] := by
    have hq : m < ids.length := by omega
    have h1 : ids.drop m = [z] := by
      rw [List.drop_eq_getElem_cons hq, List.drop_of_length_le (by omega)]
      rw [List.getElem?_eq_getElem hq] at hz
      simp at hz
      rw [hz]
    rw [← h1, List.take_append_drop]
  have l1 : (bytesOf ss (ids.take m)).length = 64 * m := by
    rw [bytesOf_length hw _ (fun x hx => h.held x (List.mem_of_mem_take hx)), List.length_take, Nat.min_eq_left (by omega)]
  have e2 : bytesOf ss ids = bytesOf ss (ids.take m) ++ blkB ss z := by
    conv => lhs; rw [e]
    rw [bytesOf_append]
    simp [bytesOf]
  have hb := h.bytes
  rw [e2, hu, List.take_append, l1, List.take_of_length_le (by omega), show 64 * m + u - 64 * m = u by omega] at hb
  exact hb.symm

theorem lies_of_last {ss : List Slot} {ids L : List Int} (hh : ∀ z ∈ ids, Held ss z) (hw : Whole ss) (m u : Nat) (hm : ids.length = m + 1) (hu0 : 0 < u) (hu1 : u ≤ 64) (z : Int) (hz : ids[m]? = some z) (hL : L = bytesOf ss (ids.take m) ++ (blkB ss z).take u) : Lies ss ids L := by
  have e : ids = ids.take m ++ [z] := by
    have hq : m < ids.length := by omega
    have h1 : ids.drop m = [z] := by
      rw [List.drop_eq_getElem_cons hq, List.drop_of_length_le (by omega)]
      rw [List.getElem?_eq_getElem hq] at hz
      simp at hz
      rw [hz]
    rw [← h1, List.take_append_drop]
  have l1 : (bytesOf ss (ids.take m)).length = 64 * m := by
    rw [bytesOf_length hw _ (fun x hx => hh x (List.mem_of_mem_take hx)), List.length_take, Nat.min_eq_left (by omega)]
  have l2 : (blkB ss z).length = 64 := blk_held hw (hh z (List.mem_of_getElem? hz))
  have e2 : bytesOf ss ids = bytesOf ss (ids.take m) ++ blkB ss z := by
    conv => lhs; rw [e]
    rw [bytesOf_append]
    simp [bytesOf]
  have lL : L.length = 64 * m + u := by rw [hL, List.length_append, l1, List.length_take]; omega
  refine ⟨by rw [lL, hm]; unfold need; omega, hh, ?_⟩
  rw [e2, lL, List.take_append, l1, List.take_of_length_le (by omega), show 64 * m + u - 64 * m = u by omega]
  exact hL.symm

theorem set_take (ids : List Int) (m : Nat) (z : Int) : (ids.set m z).take m = ids.take m := by
  rw [List.take_set, List.set_eq_of_length_le (by rw [List.length_take]; omega)]

theorem Inv.held {ss : List Slot} {fr : List Nat} {cs : List Ct} (h : Inv ss fr cs) (i : Nat) (hi : 0 < tot cs (i : Int)) (s : Slot) (hs : ss[i]? = some s) : s.holds ≠ 0 := by
  rw [h.acc i s hs]; omega

/-- a free block stands in no content -/
theorem Inv.free {ss : List Slot} {fr : List Nat} {cs : List Ct} (h : Inv ss fr cs) (j : Nat) (hj : ss[j]? = some Slot.none) : tot cs (j : Int) = 0 := by
  rw [← h.acc j _ hj]; rfl

theorem splice_zero (L : List Int) (c : List Int) (h : c.length ≤ L.length) : (splice L 0 c).take c.length = c ∧ (splice L 0 c).length = L.length := by
  constructor
  · unfold splice
    rw [List.take_zero, List.nil_append, List.take_append_of_le_length (Nat.le_refl _), List.take_of_length_le (Nat.le_refl _)]
  · exact length_splice _ _ _ (by omega)

/-- one more block with bytes -/
theorem Inv.put {ss : List Slot} {l : List Nat} {j : Nat} {ids L : List Int} {cs : List Ct} (h : Inv ss (l ++ [j]) ((ids, L) :: cs)) (c : List Int) (hc0 : 0 < c.length) (hc : c.length ≤ 64) (hL : L.length % 64 = 0) :
    Inv (ss.set j ⟨splice (zeros 64) 0 c, 1⟩) l ((ids ++ [(j : Int)], L ++ c) :: cs) := by
  obtain ⟨g1, hj⟩ := h.good.take
  have hjl := lt_of_some hj
  have hz := h.free j hj
  have hsp := splice_zero (zeros 64) c (by rw [zeros_length]; exact hc)
  have hg : Good (ss.set j ⟨splice (zeros 64) 0 c, 1⟩) l := by
    have := g1.set_held (i := j) (s := ⟨zeros 64, 1⟩) (t := ⟨splice (zeros 64) 0 c, 1⟩) (by rw [set_get, if_pos ⟨rfl, hjl⟩]) (by simp) (by simp) (by simp) (by rw [hsp.2, zeros_length])
    rwa [List.set_set] at this
  have hne : ∀ (x : List Ct), (∀ d ∈ x, (j : Int) ∉ d.1) → ∀ d ∈ x, Lies ss d.1 d.2 → Lies (ss.set j ⟨splice (zeros 64) 0 c, 1⟩) d.1 d.2 := by
    intro x hx d hd hl
    refine lies_frame hl fun i s hi hs => ⟨s, ?_, rfl, ?_⟩
    · have : i ≠ j := by rintro rfl; exact hx d hd hi
      rw [set_get, if_neg (fun c => this c.1)]; exact hs
    · obtain ⟨i', s', e, hs', hh⟩ := hl.held _ hi
      have : i' = i := by omega
      subst this
      rw [hs] at hs'; cases hs'; exact hh
  have hnone := tot_none _ _ hz
  have hl0 := h.lies (ids, L) (by simp)
  have hLn := hl0.len
  have hids : L.length = 64 * ids.length := by simp only at hLn; unfold need at hLn; omega
  refine ⟨hg, fun d hd => ?_, fun i s hs => ?_⟩
  · rcases List.mem_cons.1 hd with rfl | hd
    · have hl1 := hne ((ids, L) :: cs) hnone (ids, L) (by simp) hl0
      have hheld : ∀ z ∈ ids ++ [(j : Int)], Held (ss.set j ⟨splice (zeros 64) 0 c, 1⟩) z := by
        intro z hz
        rcases List.mem_append.1 hz with h1 | h1
        · exact hl1.held z h1
        · simp at h1; subst h1
          exact ⟨j, _, rfl, by rw [set_get, if_pos ⟨rfl, hjl⟩], by simp⟩
      refine lies_of_last hheld hg.whole ids.length c.length (by simp) hc0 hc (j : Int) (by simp) ?_
      have e1 : blkB (ss.set j ⟨splice (zeros 64) 0 c, 1⟩) (j : Int) = splice (zeros 64) 0 c := by
        unfold blkB
        rw [Int.toNat_natCast, set_get, if_pos ⟨rfl, hjl⟩]; rfl
      have e2 := hl1.bytes
      have e3 := bytesOf_length hg.whole ids hl1.held
      simp only at e2
      rw [List.take_of_length_le (by omega)] at e2
      rw [e1, hsp.1, List.take_left', e2]
      rfl
    · exact hne ((ids, L) :: cs) hnone d (by simp [hd]) (h.lies d (by simp [hd]))
  · rw [set_get] at hs
    simp only [tot, List.count_append, List.count_singleton]
    simp only [tot] at hz
    by_cases e : i = j
    · subst e
      rw [if_pos ⟨rfl, hjl⟩] at hs
      cases hs
      simp
      omega
    · rw [if_neg (fun c => e c.1)] at hs
      have := h.acc i s hs
      simp only [tot] at this
      have e' : ((j : Int) == (i : Int)) = false := by simp; omega
      rw [e', this]
      simp

end Go.Proofs.Ytpjfhfbjdcgbjab
