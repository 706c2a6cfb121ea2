/-
  extent's calls over a store and all its contents: the store's size; a drop; an empty append.
-/
import Derived.Test.YtpjfhfbjdcgbjabDrop2
namespace Go.Proofs.Ytpjfhfbjdcgbjab
open Go.RowKit
set_option linter.unusedVariables false
set_option linter.unusedSimpArgs false

theorem put_len : ∀ (m : Nat) (ss : List Slot) (fr : List Nat) (ids b : List Int) ss3 fr3 ids3, putAll m ss fr ids b = (ss3, fr3, ids3) → ss3.length = ss.length
  | 0, ss, fr, ids, b, ss3, fr3, ids3, e => by
    simp only [putAll, Prod.mk.injEq] at e
    rw [← e.1]
  | m + 1, ss, fr, ids, b, ss3, fr3, ids3, e => by
    have := put_len m _ _ _ _ ss3 fr3 ids3 e
    rw [this, List.length_set]

theorem app_len {ss ss1 ss2 ss3 : List Slot} {fr fr1 fr3 : List Nat} {ids ids1 ids3 b b2 : List Int} {sz : Nat} (h1 : OwnStep ss fr ids sz ss1 fr1 ids1) (h2 : OpenStep ss1 ids1 sz b ss2 b2) (h3 : putAll (need b2.length) ss2 fr1 ids1 b2 = (ss3, fr3, ids3)) : ss3.length = ss.length := by
  rw [put_len _ _ _ _ _ _ _ _ h3]
  have e1 : ss2.length = ss1.length := by
    rcases h2 with ⟨_, rfl, _⟩ | ⟨_, i, m, s, _, _, hs, _, rfl, _⟩ <;> simp
  have e2 : ss1.length = ss.length := by
    rcases h1 with ⟨_, rfl, _, _⟩ | ⟨hsh, l, j, i, s, k, m, _, _, _, _, _, rfl, _, _⟩ <;> simp
  omega

/-- extent.Append in a store with its contents, and the store's size -/
theorem app_inv2 {w : World} {p S F : Nat} {ss : List Slot} {fr : List Nat} (h : Ar w p S F ss fr) {ids L : List Int} {cs : List Ct} (hi : Inv ss fr ((ids, L) :: cs)) (a : Option Addr) (cap : Nat) (B : Nat) (ho : Own w B (.slice a ids.length cap) ids) (ab : Option Addr) (b : List Int) (capb : Nat) (hbc : b.length ≤ capb) (hcb : capb ≤ 9223372036854775807)
    (hsrc : Src w ab b) (hap : 0 < b.length → ∀ ad, ab = some ad → ad.block ≠ p ∧ ad.block ≠ S ∧ ad.block ≠ F) (hc : canCode ss fr ids L.length b.length = 0) :
    Calls Try.prog 12 #[.pointer (some ⟨p, 0, none⟩), .agg #[.slice a ids.length cap, .int .i64 (L.length : Int)], .slice ab b.length capb] w fun e w' => ∃ (a' : Option Addr) (c' : Nat) (ids3 : List Int) (ss3 : List Slot) (fr3 : List Nat),
      e = .returned (.tuple #[.agg #[.slice a' ids3.length c', .int .i64 ((L ++ b).length : Int)], .int .i64 0]) ∧ Own w' w.heap.size (.slice a' ids3.length c') ids3 ∧ Ar w' p S F ss3 fr3 ∧ Keeps p S F w w' ∧ Inv ss3 fr3 ((ids3, L ++ b) :: cs) ∧
      (fr3.length : Int) = (fr.length : Int) - ((need (L.length + b.length) : Int) - (need L.length : Int)) - (if isShared ss ids L.length then 1 else 0) ∧ ss3.length = ss.length ∧ (isOpen L.length = false → b = [] → ss3 = ss ∧ fr3 = fr ∧ ids3 = ids) := by
  obtain ⟨_, u1, u2, u3, _⟩ := ho.use
  refine (append_ok h a cap ids L.length (hi.lies (ids, L) (by simp)).len u1 u2 ab b capb hbc hcb hsrc hap hc).mono ?_
  rintro e w' ⟨a', c', ss1, fr1, ids1, ss2, b2, ids3, ss3, fr3, h1, h2, h3, rfl, O, A, K⟩
  obtain ⟨i1, i2⟩ := hi.append hc h1 h2 h3
  refine ⟨a', c', ids3, ss3, fr3, by rw [len_sum], O, A, K, i1, i2, app_len h1 h2 h3, fun hop hb => ?_⟩
  subst hb
  have e1 : ss1 = ss ∧ fr1 = fr ∧ ids1 = ids := by
    rcases h1 with ⟨_, a, b, c⟩ | ⟨hsh, _⟩
    · exact ⟨a, b, c⟩
    · simp [isShared, hop] at hsh
  obtain ⟨rfl, rfl, rfl⟩ := e1
  have e2 : ss2 = ss1 ∧ b2 = [] := by
    rcases h2 with ⟨_, a, b⟩ | ⟨ho2, _⟩
    · exact ⟨a, b⟩
    · rw [hop] at ho2; cases ho2
  obtain ⟨rfl, rfl⟩ := e2
  simp [need, putAll] at h3
  exact ⟨h3.1.symm, h3.2.1.symm, h3.2.2.symm⟩

theorem drop_inv {w : World} {p S F : Nat} {ss : List Slot} {fr : List Nat} (h : Ar w p S F ss fr) {ids L : List Int} {cs : List Ct} (hi : Inv ss fr ((ids, L) :: cs)) (hl : L.length ≤ 1048576) (a : Option Addr) (cap : Nat) (B : Nat) (ho : Own w B (.slice a ids.length cap) ids) (hp : p < B) (hS : S < B) (hF : F < B) (sz : Int) :
    Calls Try.prog 15 #[.pointer (some ⟨p, 0, none⟩), .agg #[.slice a ids.length cap, .int .i64 sz]] w fun e w' => ∃ ss' fr', e = .returned (.int .i64 0) ∧ Ar w' p S F ss' fr' ∧ Keeps p S F w w' ∧ Inv ss' fr' cs ∧ ss'.length = ss.length ∧ (∀ z ∈ ids, tot cs z = 0 → holdsOf ss' z = 0) := by
  obtain ⟨_, u1, u2, u3, _⟩ := ho.use
  have hl0 := hi.lies (ids, L) (by simp)
  obtain ⟨ns, rfl⟩ := ids_nats ids hl0.held
  have hlen := hl0.len
  simp only at hlen
  obtain ⟨c1, c2⟩ := hi.canDrop
  have hd := (dropF_get ns ss fr c1).1
  have q := extDrop_w h a cap ns sz (by rw [List.length_map] at hlen; rw [hlen]; unfold need; omega) u1 hd c2 (fun b off e => by have := u3 b off e; exact ⟨by omega, by omega, by omega⟩)
  rw [List.length_map]
  refine q.mono ?_
  rintro e w' ⟨rfl, A, K⟩
  have I := hi.drop A.good
  refine ⟨_, _, rfl, A, K, I, dropF_length _ _ _, fun z hz ht => ?_⟩
  obtain ⟨i, s, rfl, hs, _⟩ := hl0.held z hz
  have hg := (dropF_get ns ss fr c1).2 i
  rw [hs] at hg
  simp only [Option.map_some] at hg
  have := I.acc i _ hg
  rw [holdsOf_nat _ _ _ hg, this, ht]


end Go.Proofs.Ytpjfhfbjdcgbjab
