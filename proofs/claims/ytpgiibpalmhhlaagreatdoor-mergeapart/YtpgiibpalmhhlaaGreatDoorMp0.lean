/-
  Plain: what a tree laid over another one holds.
-/
import Derived.Test.YtpgiibpalmhhlaaGreatDoorMb1
namespace Go.Proofs.YtpgiibpalmhhlaaGreatDoor
open Go.RowKit
open Go.Lib hiding intOf
set_option linter.unusedVariables false
set_option linter.unusedSimpArgs false

/-- what is left above a path -/
def rstL (L : List Rw) (s : List UInt8) : List Rw := L.drop (ix L s + if fd L s then 1 else 0)
theorem cmpL_asym {a b : List UInt8} (h : cmpL a b < 0) : ¬ cmpL b a < 0 := fun q => cmpL_irrefl _ (cmpL_lt_trans _ _ _ h q)
theorem cmpL_ne {a b : List UInt8} (h : cmpL a b < 0) : a ≠ b := fun e => by rw [e] at h; exact cmpL_irrefl _ h
theorem mem_rst {L : List Rw} (h : Srt L) (s : List UInt8) (q : Rw) : q ∈ rstL L s ↔ q ∈ L ∧ cmpL s q.p < 0 := by
  constructor
  · intro hq
    exact ⟨List.mem_of_mem_drop hq, drop_gt (r0 := { zr with p := s }) h hq⟩
  · rintro ⟨hq, hlt⟩
    have := (mem_put h { zr with p := s } q).2 (.inr ⟨hq, (cmpL_ne hlt).symm⟩)
    unfold putL at this
    simp only [List.mem_append, List.mem_singleton] at this
    rcases this with (h1 | h1) | h1
    · exact absurd (take_lt h h1) (cmpL_asym hlt)
    · rw [h1] at hlt; exact absurd hlt (cmpL_irrefl _)
    · exact h1
theorem mem_low {L : List Rw} (h : Srt L) (s : List UInt8) (q : Rw) : q ∈ L.take (ix L s) ↔ q ∈ L ∧ cmpL q.p s < 0 := by
  constructor
  · intro hq
    exact ⟨List.mem_of_mem_take hq, take_lt h hq⟩
  · rintro ⟨hq, hlt⟩
    have := (mem_put h { zr with p := s } q).2 (.inr ⟨hq, cmpL_ne hlt⟩)
    unfold putL at this
    simp only [List.mem_append, List.mem_singleton] at this
    rcases this with (h1 | h1) | h1
    · exact h1
    · rw [h1] at hlt; exact absurd hlt (cmpL_irrefl _)
    · exact absurd (drop_gt (r0 := { zr with p := s }) h h1) (cmpL_asym hlt)
theorem Srt.rst {L : List Rw} (h : Srt L) (s : List UInt8) : Srt (rstL L s) := h.sublist (List.drop_sublist _ _)
theorem fd_iff {L : List Rw} (h : Srt L) (s : List UInt8) : fd L s = true ↔ ∃ r ∈ L, r.p = s := ⟨fd_mem, fun ⟨r, hr, e⟩ => by rw [← e]; exact fd_of h hr⟩
theorem rst_fd {L : List Rw} (h : Srt L) {s t : List UInt8} (hst : cmpL s t < 0) : fd (rstL L s) t = fd L t := by
  rw [Bool.eq_iff_iff, fd_iff (h.rst s), fd_iff h]
  constructor
  · rintro ⟨r, hr, e⟩
    exact ⟨r, ((mem_rst h s r).1 hr).1, e⟩
  · rintro ⟨r, hr, e⟩
    exact ⟨r, (mem_rst h s r).2 ⟨hr, by rw [e]; exact hst⟩, e⟩
theorem rst_at {L : List Rw} (h : Srt L) {s t : List UInt8} (hst : cmpL s t < 0) : atR (rstL L s) t = atR L t := by
  cases hf : fd L t with
  | true =>
    obtain ⟨h1, h2⟩ := atR_mem (L := L) hf
    have h3 := atR_of (h.rst s) ((mem_rst h s _).2 ⟨h1, by rw [h2]; exact hst⟩)
    rw [h2] at h3
    exact h3
  | false =>
    have := rst_fd h hst
    unfold atR
    rw [this, hf]; rfl

/-- what stands where a row is laid -/
def ovR (bn : Int) (S : List Rw) (r : Rw) : Rw := if fd S r.p then inPl (atR S r.p) { r with id := r.id + bn } else { r with id := r.id + bn }
def clsh (S : List Rw) (r : Rw) : Bool := fd S r.p && (decide ((atR S r.p).kind = 4) != decide (r.kind = 4))
theorem ovR_p (bn : Int) (S : List Rw) (r : Rw) : (ovR bn S r).p = r.p := by
  unfold ovR
  split
  · next h =>
    unfold inPl
    split
    · rfl
    · split
      · exact (atR_mem h).2
      · rfl
  · rfl
theorem ovX_step (bn : Int) (S : List Rw) (r : Rw) (us : List Rw) : ovX bn S (r :: us) = if clsh S r then none else (ovX bn (rstL S r.p) us).map fun X => S.take (ix S r.p) ++ ovR bn S r :: X := by
  show (if fd S r.p then _ else _) = _
  unfold clsh ovR rstL
  cases hf : fd S r.p with
  | false => simp
  | true =>
    by_cases hc : decide ((atR S r.p).kind = 4) = decide (r.kind = 4)
    · simp [hc]
    · simp [hc]
theorem clsh_rst {S : List Rw} (h : Srt S) {s : List UInt8} {r : Rw} (hst : cmpL s r.p < 0) : clsh (rstL S s) r = clsh S r := by
  unfold clsh
  rw [rst_fd h hst, rst_at h hst]
theorem ovR_rst {bn : Int} {S : List Rw} (h : Srt S) {s : List UInt8} {r : Rw} (hst : cmpL s r.p < 0) : ovR bn (rstL S s) r = ovR bn S r := by
  unfold ovR
  rw [rst_fd h hst, rst_at h hst]
theorem ovX_none (bn : Int) : ∀ (U S : List Rw), Srt S → Srt U → (ovX bn S U = none ↔ ∃ r ∈ U, clsh S r = true)
  | [], S, _, _ => by simp [ovX]
  | r :: us, S, hS, hU => by
    obtain ⟨h1, h2⟩ := List.pairwise_cons.1 hU
    rw [ovX_step]
    cases hc : clsh S r with
    | true => simp [hc]
    | false =>
      have ih := ovX_none bn us (rstL S r.p) (hS.rst _) h2
      simp only [Bool.false_eq_true, if_false, Option.map_eq_none_iff]
      rw [ih]
      constructor
      · rintro ⟨x, hx, e⟩
        exact ⟨x, List.mem_cons_of_mem _ hx, by rw [← clsh_rst hS (h1 x hx)]; exact e⟩
      · rintro ⟨x, hx, e⟩
        rcases List.mem_cons.1 hx with rfl | hx
        · rw [hc] at e; cases e
        · exact ⟨x, hx, by rw [clsh_rst hS (h1 x hx)]; exact e⟩
theorem ovX_some (bn : Int) : ∀ (U S X : List Rw), Srt S → Srt U → ovX bn S U = some X → Srt X ∧ ∀ q, q ∈ X ↔ (q ∈ S ∧ ∀ r ∈ U, r.p ≠ q.p) ∨ ∃ r ∈ U, q = ovR bn S r
  | [], S, X, hS, _, e => by
    injection e with e
    subst e
    exact ⟨hS, fun q => by simp⟩
  | r :: us, S, X, hS, hU, e => by
    obtain ⟨h1, h2⟩ := List.pairwise_cons.1 hU
    rw [ovX_step] at e
    cases hc : clsh S r with
    | true => rw [hc] at e; simp at e
    | false =>
      rw [hc] at e
      simp only [Bool.false_eq_true, if_false] at e
      obtain ⟨X', e1, rfl⟩ := Option.map_eq_some_iff.1 e
      obtain ⟨hsX, hm⟩ := ovX_some bn us (rstL S r.p) X' (hS.rst _) h2 e1
      have hgt : ∀ q ∈ X', cmpL r.p q.p < 0 := by
        intro q hq
        rcases (hm q).1 hq with ⟨h3, _⟩ | ⟨x, hx, rfl⟩
        · exact ((mem_rst hS _ q).1 h3).2
        · rw [ovR_p]; exact h1 x hx
      refine ⟨?_, fun q => ?_⟩
      · unfold Srt
        refine List.pairwise_append.2 ⟨hS.sublist (List.take_sublist _ _), List.pairwise_cons.2 ⟨fun q hq => by rw [ovR_p]; exact hgt q hq, hsX⟩, fun a ha b hb => ?_⟩
        have ha := ((mem_low hS _ a).1 ha).2
        rcases List.mem_cons.1 hb with rfl | hb
        · rw [ovR_p]; exact ha
        · exact cmpL_lt_trans _ _ _ ha (hgt b hb)
      · rw [List.mem_append, List.mem_cons, hm q, mem_low hS]
        constructor
        · rintro (⟨h3, h4⟩ | rfl | ⟨h3, h4⟩ | ⟨x, hx, rfl⟩)
          · refine .inl ⟨h3, fun x hx => ?_⟩
            rcases List.mem_cons.1 hx with rfl | hx
            · exact (cmpL_ne h4).symm
            · exact (cmpL_ne (cmpL_lt_trans _ _ _ h4 (h1 x hx))).symm
          · exact .inr ⟨r, List.mem_cons_self .., rfl⟩
          · obtain ⟨h5, h6⟩ := (mem_rst hS _ q).1 h3
            refine .inl ⟨h5, fun x hx => ?_⟩
            rcases List.mem_cons.1 hx with rfl | hx
            · exact cmpL_ne h6
            · exact h4 x hx
          · exact .inr ⟨x, List.mem_cons_of_mem _ hx, ovR_rst hS (h1 x hx)⟩
        · rintro (⟨h3, h4⟩ | ⟨x, hx, rfl⟩)
          · have hne := h4 r (List.mem_cons_self ..)
            by_cases c : cmpL q.p r.p < 0
            · exact .inl ⟨h3, c⟩
            · exact .inr (.inr (.inl ⟨(mem_rst hS _ q).2 ⟨h3, cmpL_gt c (Ne.symm hne)⟩, fun x hx => h4 x (List.mem_cons_of_mem _ hx)⟩))
          · rcases List.mem_cons.1 hx with rfl | hx
            · exact .inr (.inl rfl)
            · exact .inr (.inr (.inr ⟨x, hx, (ovR_rst hS (h1 x hx)).symm⟩))

/-- directories stay -/
theorem ov_kind {bn : Int} {S U X : List Rw} (hS : Srt S) (hU : Srt U) (e : ovX bn S U = some X) : ∀ q ∈ X, fd S q.p = true → decide ((atR S q.p).kind = 4) = decide (q.kind = 4) := by
  intro q hq hf
  have hno : ∀ r ∈ U, clsh S r = false := fun r hr => by
    cases hc : clsh S r with
    | false => rfl
    | true =>
      have := (ovX_none bn U S hS hU).2 ⟨r, hr, hc⟩
      rw [e] at this; cases this
  rcases ((ovX_some bn U S X hS hU e).2 q).1 hq with ⟨h1, _⟩ | ⟨r, hr, rfl⟩
  · rw [atR_of hS h1]
  · rw [ovR_p] at hf ⊢
    have hc := hno r hr
    unfold clsh at hc
    rw [hf] at hc
    have hc : decide ((atR S r.p).kind = 4) = decide (r.kind = 4) := by simpa using hc
    unfold ovR
    rw [if_pos hf]
    unfold inPl
    split
    · exact hc
    · split
      · rfl
      · exact hc
end Go.Proofs.YtpgiibpalmhhlaaGreatDoor
