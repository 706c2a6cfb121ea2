/-
  Plain: the keys of contents; trees side by side.
-/
import Derived.Test.YtpgiibpalmhhlaaGreatDoorMp1
namespace Go.Proofs.YtpgiibpalmhhlaaGreatDoor
open Go.RowKit
open Go.Lib hiding intOf
set_option linter.unusedVariables false
set_option linter.unusedSimpArgs false

theorem contK_keys (L : List Rw) : ((contK L).map Prod.fst).Nodup ∧ ∀ k, k ∈ (contK L).map Prod.fst ↔ ∃ r ∈ L, r.kind = 1 ∧ r.id = k := by
  suffices H : ∀ (L : List Rw) (K : List (Int × Int)), (K.map Prod.fst).Nodup → ((L.foldl kStep K).map Prod.fst).Nodup ∧ ∀ k, k ∈ (L.foldl kStep K).map Prod.fst ↔ k ∈ K.map Prod.fst ∨ ∃ r ∈ L, r.kind = 1 ∧ r.id = k by
    have := H L [] List.nodup_nil
    refine ⟨this.1, fun k => ?_⟩
    rw [show contK L = L.foldl kStep [] from rfl, this.2 k]; simp
  intro L
  induction L with
  | nil => intro K h; exact ⟨h, fun k => by simp⟩
  | cons r L ih =>
    intro K h
    have hk : ((kStep K r).map Prod.fst).Nodup ∧ ∀ k, k ∈ (kStep K r).map Prod.fst ↔ k ∈ K.map Prod.fst ∨ (r.kind = 1 ∧ r.id = k) := by
      unfold kStep
      by_cases c : r.kind = 1
      · rw [if_pos c, kput_keys]
        by_cases hm : r.id ∈ K.map Prod.fst
        · rw [if_pos hm]
          refine ⟨h, fun k => ⟨.inl, ?_⟩⟩
          rintro (h1 | ⟨_, rfl⟩)
          · exact h1
          · exact hm
        · rw [if_neg hm]
          refine ⟨List.nodup_append.2 ⟨h, List.pairwise_singleton _ _, fun a ha b hb => by rw [List.mem_singleton] at hb; subst hb; exact fun e => hm (e ▸ ha)⟩, fun k => ?_⟩
          rw [List.mem_append, List.mem_singleton]
          exact ⟨fun q => q.imp id fun e => ⟨c, e.symm⟩, fun q => q.imp id fun e => e.2.symm⟩
      · rw [if_neg c]
        exact ⟨h, fun k => ⟨.inl, fun q => q.resolve_right fun e => c e.1⟩⟩
    obtain ⟨i1, i2⟩ := ih (kStep K r) hk.1
    refine ⟨i1, fun k => ?_⟩
    rw [List.foldl_cons, i2 k, hk.2 k]
    constructor
    · rintro ((h1 | h1) | ⟨q, hq, h1⟩)
      · exact .inl h1
      · exact .inr ⟨r, List.mem_cons_self .., h1⟩
      · exact .inr ⟨q, List.mem_cons_of_mem _ hq, h1⟩
    · rintro (h1 | ⟨q, hq, h1⟩)
      · exact .inl (.inl h1)
      · rcases List.mem_cons.1 hq with rfl | hq
        · exact .inl (.inr h1)
        · exact .inr ⟨q, hq, h1⟩
theorem goneK_mem (L1 L2 : List Rw) (p : Int × Int) : p ∈ goneK L1 L2 ↔ p ∈ contK L1 ∧ ∀ r ∈ L2, r.kind = 1 → r.id ≠ p.1 := by
  suffices H : ∀ (L : List Rw) (K : List (Int × Int)), p ∈ L.foldl sStep K ↔ p ∈ K ∧ ∀ r ∈ L, r.kind = 1 → r.id ≠ p.1 from H L2 _
  intro L
  induction L with
  | nil => intro K; simp
  | cons r L ih =>
    intro K
    rw [List.foldl_cons, ih]
    have : p ∈ sStep K r ↔ p ∈ K ∧ (r.kind = 1 → r.id ≠ p.1) := by
      unfold sStep
      by_cases c : r.kind = 1
      · rw [if_pos c, List.mem_filter]
        simp [c]
        intro _
        exact ⟨fun h e => h e.symm, fun h e => h e.symm⟩
      · rw [if_neg c]; simp [c]
    rw [this]
    constructor
    · rintro ⟨⟨h1, h2⟩, h3⟩
      refine ⟨h1, fun q hq => ?_⟩
      rcases List.mem_cons.1 hq with rfl | hq
      · exact h2
      · exact h3 q hq
    · rintro ⟨h1, h2⟩
      exact ⟨⟨h1, h2 r (List.mem_cons_self ..)⟩, fun q hq => h2 q (List.mem_cons_of_mem _ hq)⟩
theorem goneK_nil {L1 L2 : List Rw} (h : ∀ r ∈ L1, r.kind = 1 → ∃ q ∈ L2, q.kind = 1 ∧ q.id = r.id) : goneK L1 L2 = [] := by
  refine List.eq_nil_iff_forall_not_mem.2 fun p hp => ?_
  obtain ⟨h1, h2⟩ := (goneK_mem L1 L2 p).1 hp
  obtain ⟨r, hr, e1, e2⟩ := ((contK_keys L1).2 p.1).1 (List.mem_map.2 ⟨p, h1, rfl⟩)
  obtain ⟨q, hq, e3, e4⟩ := h r hr e1
  exact h2 q hq e3 (e4.trans e2)
theorem ovX_count (bn : Int) : ∀ (U S X : List Rw), Srt S → Srt U → ovX bn S U = some X → X.length + U.countP (fun r => fd S r.p) = S.length + U.length
  | [], S, X, _, _, e => by
    injection e with e
    subst e; simp
  | r :: us, S, X, hS, hU, e => by
    obtain ⟨h1, h2⟩ := List.pairwise_cons.1 hU
    rw [ovX_step] at e
    split at e
    · cases e
    · obtain ⟨X', e1, rfl⟩ := Option.map_eq_some_iff.1 e
      have ih := ovX_count bn us (rstL S r.p) X' (hS.rst _) h2 e1
      have hc : us.countP (fun x => fd (rstL S r.p) x.p) = us.countP (fun x => fd S x.p) := List.countP_congr fun x hx => by rw [rst_fd hS (h1 x hx)]
      rw [hc] at ih
      have h3 := ix_le S r.p
      have h4 : (rstL S r.p).length = S.length - (ix S r.p + if fd S r.p then 1 else 0) := by unfold rstL; rw [List.length_drop]
      rw [List.length_append, List.length_cons, List.length_cons, List.length_take, List.countP_cons]
      cases hf : fd S r.p with
      | false => rw [hf] at h4; simp at h4 ⊢; omega
      | true =>
        rw [hf] at h4
        obtain ⟨q, hq, _⟩ := fd_some hf
        have := (List.getElem?_eq_some_iff.1 hq).1
        simp at h4 ⊢; omega

theorem over_ids {LA LB : List Rw} {nA nB : Int} (PA : Pd LA nA) (PB : Pd LB nB) : ∀ q ∈ (overP LA nA LB nB).1, 0 ≤ q.id ∧ q.id ≤ 18060 := by
  have hS := PA.sd.srt
  have h1 : ∀ q ∈ LA, 0 ≤ q.id ∧ q.id ≤ 18060 := fun q hq => by have a := PA.sd.id q hq; have b := PA.nx; omega
  cases e : ovX nA LA LB with
  | none => unfold overP; rw [e]; exact h1
  | some X =>
    have hX := (ovX_some nA LB LA X hS PB.sd.srt e).2
    unfold overP
    rw [e]
    intro q hq
    rcases (hX q).1 hq with ⟨h3, _⟩ | ⟨r, hr, rfl⟩
    · exact h1 q h3
    · have a := PB.sd.id r hr
      have b := PA.nx
      have c := PB.nx
      have d : fd LA r.p = true → 0 ≤ (atR LA r.p).id ∧ (atR LA r.p).id ≤ 18060 := fun hf => h1 _ (atR_mem hf).1
      unfold ovR inPl
      split
      · next hf =>
        split
        · show 0 ≤ r.id + nA ∧ r.id + nA ≤ 18060; omega
        · split
          · exact d hf
          · exact d hf
      · show 0 ≤ r.id + nA ∧ r.id + nA ≤ 18060; omega

/-- trees that have no path together but directories -/
theorem apart_all {LA LB : List Rw} {nA nB : Int} (PA : Pd LA nA) (PB : Pd LB nB) (hno : ∀ r ∈ LB, fd LA r.p = true → (atR LA r.p).kind = 4 ∧ r.kind = 4) :
    (overP LA nA LB nB).2.2 = 0 ∧ (overP LA nA LB nB).1.length + LB.countP (fun r => fd LA r.p) = LA.length + LB.length ∧ (contK (overP LA nA LB nB).1).length = (contK LA).length + (contK LB).length ∧ goneK LA (overP LA nA LB nB).1 = [] := by
  have hS := PA.sd.srt
  have hU := PB.sd.srt
  cases e : ovX nA LA LB with
  | none =>
    obtain ⟨r, hr, hc⟩ := (ovX_none nA LB LA hS hU).1 e
    unfold clsh at hc
    cases hf : fd LA r.p with
    | false => rw [hf] at hc; cases hc
    | true =>
      obtain ⟨h1, h2⟩ := hno r hr hf
      rw [hf, h1, h2] at hc
      simp at hc
  | some X =>
    have hX := (ovX_some nA LB LA X hS hU e).2
    have hcnt := ovX_count nA LB LA X hS hU e
    have hov : overP LA nA LB nB = (X, nA + nB, 0) := by unfold overP; rw [e]
    rw [hov]
    have stay : ∀ q ∈ LA, q.kind = 1 → q ∈ X := fun q hq hk => (hX q).2 (.inl ⟨hq, fun r hr he => by
      have hf : fd LA r.p = true := by rw [he]; exact fd_of hS hq
      have := (hno r hr hf).1
      rw [he, atR_of hS hq, hk] at this
      cases this⟩)
    have key : ∀ k, (∃ q ∈ X, q.kind = 1 ∧ q.id = k) ↔ (∃ q ∈ LA, q.kind = 1 ∧ q.id = k) ∨ (∃ r ∈ LB, r.kind = 1 ∧ r.id + nA = k) := by
      intro k
      constructor
      · rintro ⟨q, hq, h1, h2⟩
        rcases (hX q).1 hq with ⟨h3, _⟩ | ⟨r, hr, rfl⟩
        · exact .inl ⟨q, h3, h1, h2⟩
        · right
          cases hf : fd LA r.p with
          | false =>
            unfold ovR at h1 h2
            rw [hf] at h1 h2
            exact ⟨r, hr, h1, h2⟩
          | true =>
            obtain ⟨h3, h4⟩ := hno r hr hf
            unfold ovR inPl at h1
            rw [hf] at h1
            simp [h4] at h1
            split at h1
            · rw [h3] at h1; cases h1
            · exact absurd (show (4 : Int) = 1 from h1) (by decide)
      · rintro (⟨q, hq, h1, h2⟩ | ⟨r, hr, h1, h2⟩)
        · exact ⟨q, stay q hq h1, h1, h2⟩
        · have hf : fd LA r.p = false := by
            cases hf : fd LA r.p with
            | false => rfl
            | true => have := (hno r hr hf).2; rw [h1] at this; cases this
          refine ⟨ovR nA LA r, (hX _).2 (.inr ⟨r, hr, rfl⟩), ?_⟩
          unfold ovR
          rw [hf]
          exact ⟨h1, h2⟩
    refine ⟨rfl, hcnt, ?_, goneK_nil fun r hr hk => ⟨r, stay r hr hk, hk, rfl⟩⟩
    obtain ⟨x1, x2⟩ := contK_keys X
    obtain ⟨a1, a2⟩ := contK_keys LA
    obtain ⟨b1, b2⟩ := contK_keys LB
    have hp : ((contK X).map Prod.fst).Perm ((contK LA).map Prod.fst ++ ((contK LB).map Prod.fst).map (· + nA)) := by
      refine (List.perm_ext_iff_of_nodup x1 (List.nodup_append.2 ⟨a1, ?_, ?_⟩)).2 fun k => ?_
      · exact List.Pairwise.map _ (fun a b hab e => hab (by omega)) b1
      · intro a ha b hb
        obtain ⟨r, hr, _, rfl⟩ := (a2 a).1 ha
        obtain ⟨z, hz, rfl⟩ := List.mem_map.1 hb
        obtain ⟨r2, hr2, _, rfl⟩ := (b2 z).1 hz
        have h1 := PA.sd.id r hr
        have h2 := PB.sd.id r2 hr2
        omega
      · rw [x2 k, key k, List.mem_append, a2 k, List.mem_map]
        constructor
        · rintro (h | ⟨r, hr, h1, h2⟩)
          · exact .inl h
          · exact .inr ⟨r.id, (b2 _).2 ⟨r, hr, h1, rfl⟩, h2⟩
        · rintro (h | ⟨z, hz, h2⟩)
          · exact .inl h
          · obtain ⟨r, hr, h1, rfl⟩ := (b2 z).1 hz
            exact .inr ⟨r, hr, h1, h2⟩
    have := hp.length_eq
    rw [List.length_append, List.length_map, List.length_map, List.length_map, List.length_map] at this
    exact this
end Go.Proofs.YtpgiibpalmhhlaaGreatDoor
