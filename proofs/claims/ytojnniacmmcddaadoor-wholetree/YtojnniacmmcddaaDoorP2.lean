/-
  Plain: the directories in which a clean path lies, and the order.
-/
import Derived.Test.YtojnniacmmcddaaDoorP1
namespace Go.Proofs.YtojnniacmmcddaaDoor
open Go.RowKit
open Go.Lib hiding intOf
set_option linter.unusedVariables false
set_option linter.unusedSimpArgs false

/-- a clean path that isn't the root -/
def Cp (s : List UInt8) : Prop := ∃ ps, ps ≠ [] ∧ (∀ p ∈ ps, Good p) ∧ s = jn ps

theorem Cp.ne {s : List UInt8} (h : Cp s) : s ≠ [] := by
  obtain ⟨ps, h1, h2, rfl⟩ := h
  exact fun e => h1 ((jn_nil_iff ps h2).1 e)

theorem chain_jn (ps : List (List UInt8)) (h : ∀ p ∈ ps, Good p) (x : List UInt8) : x ∈ chain (jn ps) ↔ ∃ a, a ≠ [] ∧ a <+: ps ∧ x = jn a := by
  generalize hn : ps.length = n
  induction n generalizing ps with
  | zero =>
    obtain rfl := List.length_eq_zero_iff.1 hn
    rw [jn_nil, chain_nil]
    constructor
    · intro q; cases q
    · rintro ⟨a, h1, h2, _⟩
      exact absurd (List.prefix_nil.1 h2) h1
  | succ n ih =>
    have hne : ps ≠ [] := fun e => by rw [e] at hn; simp at hn
    have hj : jn ps ≠ [] := fun e => hne ((jn_nil_iff ps h).1 e)
    rw [chain_cons hj, up_jn ps h hne, List.mem_cons, ih ps.dropLast (fun p hp => h p (List.dropLast_subset ps hp)) (by rw [List.length_dropLast]; omega)]
    constructor
    · rintro (rfl | ⟨a, h1, h2, rfl⟩)
      · exact ⟨ps, hne, List.prefix_rfl, rfl⟩
      · exact ⟨a, h1, h2.trans (List.dropLast_prefix ps), rfl⟩
    · rintro ⟨a, h1, h2, rfl⟩
      by_cases e : a = ps
      · exact .inl (by rw [e])
      · refine .inr ⟨a, h1, ?_, rfl⟩
        obtain ⟨t, rfl⟩ := h2
        have ht : t ≠ [] := fun q => e (by rw [q, List.append_nil])
        rw [List.dropLast_append_of_ne_nil ht]
        exact List.prefix_append a _

theorem Cp.chain {s x : List UInt8} (h : Cp s) (hx : x ∈ chain s) : Cp x := by
  obtain ⟨ps, h1, h2, rfl⟩ := h
  obtain ⟨a, k1, k2, rfl⟩ := (chain_jn ps h2 x).1 hx
  exact ⟨a, k1, fun p hp => h2 p (k2.subset hp), rfl⟩

theorem Cp.up {s : List UInt8} (h : Cp s) : upL s = [] ∨ Cp (upL s) := by
  obtain ⟨ps, h1, h2, rfl⟩ := h
  rw [up_jn ps h2 h1]
  by_cases e : ps.dropLast = []
  · left; rw [e]; rfl
  · exact .inr ⟨_, e, fun p hp => h2 p (List.dropLast_subset ps hp), rfl⟩

theorem chain_trans {a b c : List UInt8} (h : Cp c) (h1 : a ∈ chain b) (h2 : b ∈ chain c) : a ∈ chain c := by
  obtain ⟨ps, k1, k2, rfl⟩ := h
  obtain ⟨m, q1, q2, rfl⟩ := (chain_jn ps k2 b).1 h2
  obtain ⟨n, r1, r2, rfl⟩ := (chain_jn m (fun p hp => k2 p (q2.subset hp)) a).1 h1
  exact (chain_jn ps k2 _).2 ⟨n, r1, r2.trans q2, rfl⟩

theorem bnd_und : ∀ d s : List UInt8, bnd d s = (Lib.hasPrefix s d && ((s.drop d.length).isEmpty || decide ((s.drop d.length).head? = some 47)))
  | [], [] => by simp [bnd, Lib.hasPrefix]
  | [], c :: s => by
    show (c == 47) = _
    by_cases e : c = 47
    · subst e; rfl
    · have e1 : (c == 47) = false := by simpa using e
      rw [e1]
      simp [Lib.hasPrefix, e]
  | a :: d, [] => by simp [bnd, Lib.hasPrefix]
  | a :: d, b :: s => by
    rw [bnd, bnd_und d s]
    show (a == b && (d.isPrefixOf s && _)) = ((a == b && d.isPrefixOf s) && _)
    rw [Bool.and_assoc]
    rfl

theorem chain_bnd {s x : List UInt8} (hs : Cp s) (hx : Cp x) : x ∈ chain s ↔ bnd x s = true := by
  have hxn := hx.ne
  obtain ⟨ps, h1, h2, rfl⟩ := hs
  obtain ⟨m, k1, k2, rfl⟩ := hx
  have hu := und_jn m ps k2 h2
  have e : und (jn m) (jn ps) = bnd (jn m) (jn ps) := by
    unfold und
    rw [bnd_und]
    have : (jn m).isEmpty = false := by simpa using hxn
    rw [this, Bool.false_or]
  rw [← e, hu, chain_jn ps h2]
  constructor
  · rintro ⟨a, q1, q2, q3⟩
    rw [jn_inj m a k2 (fun p hp => h2 p (q2.subset hp)) q3]
    exact decide_eq_true q2
  · intro q
    exact ⟨m, k1, of_decide_eq_true q, rfl⟩

theorem bnd_lt : ∀ d s : List UInt8, bnd d s = true → d ≠ s → cmpL d s < 0
  | [], [], _, h => absurd rfl h
  | [], c :: s, _, _ => by simp [cmpL]
  | a :: d, [], h, _ => by simp [bnd] at h
  | a :: d, b :: s, h, hne => by
    simp [bnd] at h
    obtain ⟨rfl, h⟩ := h
    rw [cmpL, if_pos rfl]
    exact bnd_lt d s h fun e => hne (by rw [e])

theorem chain_lt {s x : List UInt8} (hs : Cp s) (hx : x ∈ chain s) (hne : x ≠ s) : cmpL x s < 0 :=
  bnd_lt x s ((chain_bnd hs (hs.chain hx)).1 hx) hne

theorem chain_mid {t r x : List UInt8} (hr : Cp r) (hx : Cp x) (h : t ∈ chain x) (h1 : cmpL t r < 0) (h2 : cmpL r x < 0) : t ∈ chain r :=
  (chain_bnd hr (hx.chain h)).2 (bnd_mid t r x ((chain_bnd hx (hx.chain h)).1 h) h1 h2)

/-- the chain of a path in reverse order is in order -/
theorem chain_pair (s : List UInt8) (hs : Cp s ∨ s = []) : (chain s).Pairwise fun a b => b ∈ chain a ∧ cmpL b a < 0 := by
  generalize hn : s.length = n
  induction n using Nat.strongRecOn generalizing s with
  | _ n ih =>
    rcases hs with hs | rfl
    · have hne := hs.ne
      rw [chain_cons hne]
      refine List.pairwise_cons.2 ⟨fun b hb => ?_, ih _ (by rw [← hn]; exact up_len hne) (upL s) hs.up.symm rfl⟩
      have hb2 : b ∈ chain s := by rw [chain_cons hne]; exact List.mem_cons_of_mem _ hb
      refine ⟨hb2, chain_lt hs hb2 fun e => ?_⟩
      have := (chain_le (upL s) b hb).1
      have := up_len hne
      rw [e] at *
      omega
    · rw [chain_nil]; exact List.Pairwise.nil

end Go.Proofs.YtojnniacmmcddaaDoor
