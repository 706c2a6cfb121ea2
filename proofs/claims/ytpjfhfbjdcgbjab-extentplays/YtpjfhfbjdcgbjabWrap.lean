/-
  extent's calls over a store and all its contents.
-/
import Derived.Test.YtpjfhfbjdcgbjabShare
import Derived.Test.YtpjfhfbjdcgbjabExtRead
import Derived.Test.YtpjfhfbjdcgbjabAppErr
namespace Go.Proofs.Ytpjfhfbjdcgbjab
open Go.RowKit
set_option linter.unusedVariables false
set_option linter.unusedSimpArgs false

theorem Own.use {w : World} {B n c : Nat} {a : Option Addr} {ids : List Int} (h : Own w B (.slice a n c) ids) : n = ids.length ∧ Ids w a ids ∧ (a = none → c = 0) ∧ (∀ b off, a = some ⟨b, off, none⟩ → B ≤ b) ∧ ids.length ≤ c ∧ c ≤ 9223372036854775807 := by
  obtain ⟨a', c', e, h1, h2, h3, h4⟩ := h.form
  simp at e
  obtain ⟨rfl, rfl, rfl⟩ := e
  refine ⟨rfl, h1, fun e => ?_, fun b off e => (h2 b off e).1, h3, h4⟩
  rcases h.2 with ⟨e1, _⟩ | ⟨g, cap, cur, e1, _⟩
  · simp at e1; exact e1.2.2
  · simp at e1; rw [e] at e1; simp at e1

theorem Own.keeps {w w' : World} {B p S F : Nat} {v : Value} {ids : List Int} (h : Own w B v ids) (hk : Keeps p S F w w') (h1 : p < B) (h2 : S < B) (h3 : F < B) : Own w' B v ids :=
  h.moved fun g hg hl _ => hk.block g hl (by omega) (by omega) (by omega)

theorem Own.grow {w w' : World} {B : Nat} {v : Value} {ids : List Int} (h : Own w B v ids) (hb : Below w.heap.size w w') : Own w' B v ids :=
  h.moved fun g _ hl _ => hb.block g hl

theorem own_nil (w : World) (B : Nat) : Own w B (.slice none 0 0) [] := ⟨rfl, .inl ⟨rfl, rfl⟩⟩

theorem OwnB.use {w : World} {B n c : Nat} {a : Option Addr} {zs : List Int} (h : OwnB w B (.slice a n c) zs) : n = zs.length ∧ Src w a zs := by
  rcases h.2 with ⟨e1, e2⟩ | ⟨g, cap, cur, e1, e2, e3, e4, e5, e6, e7⟩
  · simp at e1
    obtain ⟨rfl, rfl, rfl⟩ := e1
    exact ⟨e2.symm, fun h0 => by omega⟩
  · simp at e1
    obtain ⟨rfl, rfl, rfl⟩ := e1
    refine ⟨rfl, fun h0 => ⟨_, rfl, fun j v hv => ?_⟩⟩
    have e0 : (⟨g, 0, none⟩ : Addr).add j = ⟨g, j, none⟩ := by unfold Addr.add; split <;> simp_all
    have hj := (List.getElem?_eq_some_iff.1 hv).1
    rw [cellsOf_length] at hj
    rw [e0]
    simp only [World.cell?, e3]
    have : (cur.toList.take (zs.length * 1))[j]? = (cellsOf zs)[j]? := by rw [e7]
    rw [Nat.mul_one, List.getElem?_take, if_pos hj, hv] at this
    simpa using this

/-- the last block of a content is held -/
theorem Inv.last {ss : List Slot} {fr : List Nat} {ids L : List Int} {cs : List Ct} (h : Inv ss fr ((ids, L) :: cs)) (ho : isOpen L.length = true) : lastHolds ss ids ≠ 0 ∧ (0 < ids.length) ∧ ∀ i : Nat, ids.getLastD 0 = (i : Int) → lastHolds ss ids = tot ((ids, L) :: cs) (i : Int) := by
  have hl0 := h.lies (ids, L) (by simp)
  obtain ⟨m, hm, _⟩ := open_len hl0.len ho
  simp only at hm
  have hg := last_get ids m hm
  obtain ⟨i, s, e, hs, hh⟩ := hl0.held _ (List.mem_of_getElem? hg)
  unfold lastHolds
  rw [e, holdsOf_nat ss i s hs]
  refine ⟨hh, by omega, fun i' e' => ?_⟩
  have : i' = i := by omega
  subst this
  exact h.acc i' s hs

theorem Inv.can {ss : List Slot} {fr : List Nat} {ids L : List Int} {cs : List Ct} (h : Inv ss fr ((ids, L) :: cs)) (n : Nat) (h1 : L.length + n ≤ 1048576) (h2 : (need (L.length + n) : Int) - (need L.length : Int) + (if isShared ss ids L.length then 1 else 0) ≤ (fr.length : Int)) : canCode ss fr ids L.length n = 0 := by
  have hlen := (h.lies (ids, L) (by simp)).len
  simp only at hlen
  unfold canCode
  rw [if_neg (by omega), if_neg (by rw [hlen]; omega), if_neg]
  rintro ⟨ho, hl⟩
  exact (h.last ho).1 hl

theorem Inv.full {ss : List Slot} {fr : List Nat} {ids L : List Int} {cs : List Ct} (h : Inv ss fr ((ids, L) :: cs)) (n : Nat) (h1 : L.length + n ≤ 1048576) (h2 : (fr.length : Int) < (need (L.length + n) : Int) - (need L.length : Int) + (if isShared ss ids L.length then 1 else 0)) : canCode ss fr ids L.length n = 3 := by
  have hlen := (h.lies (ids, L) (by simp)).len
  simp only at hlen
  unfold canCode
  rw [if_neg (by omega), if_pos (by rw [hlen]; omega)]

theorem Inv.single {ss : List Slot} {fr : List Nat} {ids L : List Int} {cs : List Ct} (h : Inv ss fr ((ids, L) :: cs)) (hc : ∀ z ∈ ids, ids.count z + tot cs z ≤ 1) : isShared ss ids L.length = false := by
  cases ho : isOpen L.length with
  | false => simp [isShared, ho]
  | true =>
    obtain ⟨h1, h2, h3⟩ := h.last ho
    obtain ⟨m, hm, _⟩ := open_len (h.lies (ids, L) (by simp)).len ho
    simp only at hm
    have hg := last_get ids m hm
    obtain ⟨i, s, e, hs, hh⟩ := (h.lies (ids, L) (by simp)).held _ (List.mem_of_getElem? hg)
    have := h3 i e
    have hb := hc (i : Int) (by rw [← e]; exact List.mem_of_getElem? hg)
    simp only [tot] at this
    simp [isShared, ho]
    omega

theorem Inv.twice {ss : List Slot} {fr : List Nat} {ids L : List Int} {cs : List Ct} (h : Inv ss fr ((ids, L) :: (ids, L) :: cs)) : isShared ss ids L.length = isOpen L.length := by
  cases ho : isOpen L.length with
  | false => simp [isShared, ho]
  | true =>
    obtain ⟨h1, h2, h3⟩ := h.last ho
    obtain ⟨m, hm, _⟩ := open_len (h.lies (ids, L) (by simp)).len ho
    simp only at hm
    have hg := last_get ids m hm
    obtain ⟨i, s, e, hs, hh⟩ := (h.lies (ids, L) (by simp)).held _ (List.mem_of_getElem? hg)
    have := h3 i e
    have hpos := List.count_pos_iff.2 (show (i : Int) ∈ ids by rw [← e]; exact List.mem_of_getElem? hg)
    simp only [tot] at this
    simp [isShared, ho]
    omega

/-- no block is held twice -/
def Un (ss : List Slot) : Prop := ∀ s ∈ ss, s.holds ≤ 1

theorem un_set {ss : List Slot} (h : Un ss) (i : Nat) (t : Slot) (ht : t.holds ≤ 1) : Un (ss.set i t) := by
  intro s hs
  rcases List.mem_or_eq_of_mem_set hs with h1 | rfl
  · exact h s h1
  · exact ht

theorem un_put : ∀ (m : Nat) (ss : List Slot) (fr : List Nat) (ids b : List Int), Un ss → ∀ ss3 fr3 ids3, putAll m ss fr ids b = (ss3, fr3, ids3) → Un ss3
  | 0, ss, fr, ids, b, h, ss3, fr3, ids3, e => by
    simp only [putAll, Prod.mk.injEq] at e
    rw [← e.1]; exact h
  | m + 1, ss, fr, ids, b, h, ss3, fr3, ids3, e => un_put m _ _ _ _ (un_set h _ _ (Nat.le_refl _)) ss3 fr3 ids3 e

theorem un_shared {ss : List Slot} (h : Un ss) (ids : List Int) (sz : Nat) : isShared ss ids sz = false := by
  have hl : lastHolds ss ids ≤ 1 := by
    unfold lastHolds holdsOf
    split
    · omega
    · cases hs : ss[(ids.getLastD 0).toNat]? with
      | none => simp
      | some s => simpa using h s (mem_of_some hs)
  simp [isShared]
  intro _
  omega

theorem un_append {ss ss1 ss2 ss3 : List Slot} {fr fr1 fr3 : List Nat} {ids ids1 ids3 b b2 : List Int} {sz : Nat} (h : Un ss) (h1 : OwnStep ss fr ids sz ss1 fr1 ids1) (h2 : OpenStep ss1 ids1 sz b ss2 b2) (h3 : putAll (need b2.length) ss2 fr1 ids1 b2 = (ss3, fr3, ids3)) : Un ss3 := by
  have hu1 : Un ss1 := by
    rcases h1 with ⟨_, rfl, _, _⟩ | ⟨hsh, _⟩
    · exact h
    · rw [un_shared h] at hsh; cases hsh
  have hu2 : Un ss2 := by
    rcases h2 with ⟨_, rfl, _⟩ | ⟨_, i, m, s, _, _, hs, _, rfl, _⟩
    · exact hu1
    · exact un_set hu1 _ _ (hu1 s (mem_of_some hs))
  exact un_put _ _ _ _ _ hu2 _ _ _ h3

theorem len_sum (L b : List Int) : (L.length : Int) + (b.length : Int) = ((L ++ b).length : Int) := by simp

/-- extent.Append in a store with its contents -/
theorem app_inv {w : World} {p S F : Nat} {ss : List Slot} {fr : List Nat} (h : Ar w p S F ss fr) {ids L : List Int} {cs : List Ct} (hi : Inv ss fr ((ids, L) :: cs)) (a : Option Addr) (cap : Nat) (B : Nat) (ho : Own w B (.slice a ids.length cap) ids) (ab : Option Addr) (b : List Int) (capb : Nat) (hbc : b.length ≤ capb) (hcb : capb ≤ 9223372036854775807)
    (hsrc : Src w ab b) (hap : 0 < b.length → ∀ ad, ab = some ad → ad.block ≠ p ∧ ad.block ≠ S ∧ ad.block ≠ F) (hc : canCode ss fr ids L.length b.length = 0) :
    Calls Try.prog 12 #[.pointer (some ⟨p, 0, none⟩), .agg #[.slice a ids.length cap, .int .i64 (L.length : Int)], .slice ab b.length capb] w fun e w' => ∃ (a' : Option Addr) (c' : Nat) (ids3 : List Int) (ss3 : List Slot) (fr3 : List Nat),
      e = .returned (.tuple #[.agg #[.slice a' ids3.length c', .int .i64 ((L ++ b).length : Int)], .int .i64 0]) ∧ Own w' w.heap.size (.slice a' ids3.length c') ids3 ∧ Ar w' p S F ss3 fr3 ∧ Keeps p S F w w' ∧ Inv ss3 fr3 ((ids3, L ++ b) :: cs) ∧
      (fr3.length : Int) = (fr.length : Int) - ((need (L.length + b.length) : Int) - (need L.length : Int)) - (if isShared ss ids L.length then 1 else 0) ∧ (Un ss → Un ss3) := by
  obtain ⟨_, u1, u2, u3, _⟩ := ho.use
  refine (append_ok h a cap ids L.length (hi.lies (ids, L) (by simp)).len u1 u2 ab b capb hbc hcb hsrc hap hc).mono ?_
  rintro e w' ⟨a', c', ss1, fr1, ids1, ss2, b2, ids3, ss3, fr3, h1, h2, h3, rfl, O, A, K⟩
  obtain ⟨i1, i2⟩ := hi.append hc h1 h2 h3
  exact ⟨a', c', ids3, ss3, fr3, by rw [len_sum], O, A, K, i1, i2, fun hu => un_append hu h1 h2 h3⟩

/-- extent.Append with no room -/
theorem app_err {w : World} {p S F : Nat} {ss : List Slot} {fr : List Nat} (h : Ar w p S F ss fr) {ids L : List Int} {cs : List Ct} (hi : Inv ss fr ((ids, L) :: cs)) (hl : L.length ≤ 1048576) (a : Option Addr) (cap : Nat) (B : Nat) (ho : Own w B (.slice a ids.length cap) ids) (ab : Option Addr) (bl capb : Nat) (hb : bl ≤ 1099511627776) (hc : ¬ canCode ss fr ids L.length bl = 0) :
    Calls Try.prog 12 #[.pointer (some ⟨p, 0, none⟩), .agg #[.slice a ids.length cap, .int .i64 (L.length : Int)], .slice ab bl capb] w fun e w' => ∃ (a' : Option Addr) (c' : Nat),
      e = .returned (.tuple #[.agg #[.slice a' ids.length c', .int .i64 (L.length : Int)], .int .i64 (canCode ss fr ids L.length bl)]) ∧ Own w' w.heap.size (.slice a' ids.length c') ids ∧ Below w.heap.size w w' := by
  obtain ⟨_, u1, u2, u3, _⟩ := ho.use
  have hlen := (hi.lies (ids, L) (by simp)).len
  simp only at hlen
  exact append_err w _ a cap ids (L.length : Int) u1 (by rw [hlen]; unfold need; omega) u2 ab bl capb _ hc fun W hb' => can_w (h.grow hb') a cap ids L.length bl hl hlen (u1.grow hb') hb

theorem inv_new (n : Nat) (ss : List Slot) (fr : List Nat) (hg : Good ss fr) (h0 : ∀ s ∈ ss, s.holds = 0) : Inv ss fr [] :=
  ⟨hg, fun c h => by simp at h, fun i s hs => by simp [tot, h0 s (mem_of_some hs)]⟩

theorem Inv.begin {ss : List Slot} {fr : List Nat} {cs : List Ct} (h : Inv ss fr cs) : Inv ss fr (([], []) :: cs) :=
  ⟨h.good, fun c hc => by
    rcases List.mem_cons.1 hc with rfl | hc
    · exact ⟨rfl, fun z hz => by simp at hz, rfl⟩
    · exact h.lies c hc, fun i s hs => by simp [tot]; exact h.acc i s hs⟩

end Go.Proofs.Ytpjfhfbjdcgbjab
