/-
  Plain: the document's tree: things as they came; Find, with, parents, Add, Link; how they go with rows in order.
-/
import Derived.Test.YtpgiibpalmhhlaaGreatDoorMP
import Derived.Test.YtpgiibpalmhhlaaGreatDoorMW
namespace Go.Proofs.YtpgiibpalmhhlaaGreatDoor
open Go.RowKit
open Go.Lib hiding intOf
set_option linter.unusedVariables false
set_option linter.unusedSimpArgs false

/-- a thing of the document's tree -/
structure Td where
  p : List UInt8
  k : Int
  m : Int
  made : Bool
  id : Int

def zd : Td := ⟨[], 0, 0, false, 0⟩
def dx (W : List Td) (s : List UInt8) : Nat := W.findIdx fun x => decide (x.p = s)
def fdD (W : List Td) (s : List UInt8) : Bool := decide (dx W s < W.length)
def atD (W : List Td) (s : List UInt8) : Td := (W[dx W s]?).getD zd
/-- where Find finds it -/
def dz (W : List Td) (s : List UInt8) : Int := if fdD W s then (dx W s : Int) else -1
def withD (W : List Td) (x : Td) : List Td := if fdD W x.p then W.set (dx W x.p) x else W ++ [x]
/-- parents, over the directories from above -/
def parD : List (List UInt8) → List Td → Int → List Td × Int × Int
  | [], W, nx => (W, nx, 0)
  | u :: us, W, nx => if fdD W u then (if (atD W u).k = 4 then parD us W nx else (W, nx, 130)) else parD us (withD W ⟨u, 4, 0, true, nx⟩) (nx + 1)
/-- the directories in which a path of parts lies, from the n-th on -/
def upR (ps : List (List UInt8)) (n : Nat) : List (List UInt8) := (List.range' n (ps.length - n)).map fun i => jn (ps.take i)
def addD (W : List Td) (nx : Int) (s : List UInt8) (k m : Int) : List Td × Int × Int :=
  if s = [] then (W, nx, 100)
  else if fdD W s = true ∧ decide ((atD W s).k = 4) ≠ decide (k = 4) then (W, nx, 130)
  else if (parD (upR (parts s) 1) W nx).2.2 ≠ 0 then (W, nx, (parD (upR (parts s) 1) W nx).2.2)
  else if fdD W s = true ∧ k = 4 then (withD (parD (upR (parts s) 1) W nx).1 ⟨s, k, m, false, (atD W s).id⟩, (parD (upR (parts s) 1) W nx).2.1, 0)
  else (withD (parD (upR (parts s) 1) W nx).1 ⟨s, k, m, false, (parD (upR (parts s) 1) W nx).2.1⟩, (parD (upR (parts s) 1) W nx).2.1 + 1, 0)
def linkD (W : List Td) (nx : Int) (s tt : List UInt8) : List Td × Int × Int :=
  if s = [] then (W, nx, 100)
  else if fdD W tt = false then (W, nx, 4)
  else if (atD W tt).k ≠ 1 ∨ (fdD W s = true ∧ (atD W s).k = 4) then (W, nx, 130)
  else if (parD (upR (parts s) 1) W nx).2.2 ≠ 0 then (W, nx, (parD (upR (parts s) 1) W nx).2.2)
  else (withD (parD (upR (parts s) 1) W nx).1 { atD W tt with p := s }, (parD (upR (parts s) 1) W nx).2.1, 0)

theorem dx_le (W : List Td) (s : List UInt8) : dx W s ≤ W.length := List.findIdx_le_length
theorem upR_cons {ps : List (List UInt8)} {n : Nat} (h : n < ps.length) : upR ps n = jn (ps.take n) :: upR ps (n + 1) := by
  unfold upR
  obtain ⟨k, hk⟩ : ∃ k, ps.length - n = k + 1 := ⟨ps.length - n - 1, by omega⟩
  rw [hk, List.range'_succ, List.map_cons, show ps.length - (n + 1) = k by omega]
theorem upR_nil {ps : List (List UInt8)} {n : Nat} (h : ¬ n < ps.length) : upR ps n = [] := by
  unfold upR
  rw [show ps.length - n = 0 by omega]; rfl

theorem fdD_iff {W : List Td} {s : List UInt8} : fdD W s = true ↔ ∃ x ∈ W, x.p = s := by
  unfold fdD dx
  rw [decide_eq_true_iff, List.findIdx_lt_length]
  simp
theorem atD_get {W : List Td} {s : List UInt8} (h : fdD W s = true) : ∃ x, W[dx W s]? = some x ∧ x.p = s ∧ atD W s = x := by
  have hl : dx W s < W.length := of_decide_eq_true h
  refine ⟨W[dx W s], List.getElem?_eq_getElem hl, ?_, ?_⟩
  · have := List.findIdx_getElem (xs := W) (p := fun x : Td => decide (x.p = s)) (w := hl)
    exact of_decide_eq_true this
  · unfold atD; rw [List.getElem?_eq_getElem hl]; rfl
theorem atD_mem {W : List Td} {s : List UInt8} (h : fdD W s = true) : atD W s ∈ W ∧ (atD W s).p = s := by
  obtain ⟨x, h1, h2, h3⟩ := atD_get h
  rw [h3]
  exact ⟨List.mem_of_getElem? h1, h2⟩
/-- no path twice -/
def Nd (W : List Td) : Prop := W.Pairwise fun a b => a.p ≠ b.p
theorem Nd.uniq {W : List Td} (h : Nd W) {x y : Td} (hx : x ∈ W) (hy : y ∈ W) (e : x.p = y.p) : x = y := by
  obtain ⟨i, hi⟩ := List.mem_iff_getElem?.1 hx
  obtain ⟨j, hj⟩ := List.mem_iff_getElem?.1 hy
  obtain ⟨i1, i2⟩ := List.getElem?_eq_some_iff.1 hi
  obtain ⟨j1, j2⟩ := List.getElem?_eq_some_iff.1 hj
  have hp := List.pairwise_iff_getElem.1 h
  rcases Nat.lt_trichotomy i j with c | c | c
  · have := hp i j i1 j1 c; rw [i2, j2] at this; exact absurd e this
  · subst c; rw [← i2, ← j2]
  · have := hp j i j1 i1 c; rw [i2, j2] at this; exact absurd e.symm this
theorem mem_withD {W : List Td} (h : Nd W) (x y : Td) : y ∈ withD W x ↔ y = x ∨ (y ∈ W ∧ y.p ≠ x.p) := by
  unfold withD
  by_cases hf : fdD W x.p = true
  · rw [if_pos hf]
    obtain ⟨z, h1, h2, _⟩ := atD_get hf
    obtain ⟨hl, hz⟩ := List.getElem?_eq_some_iff.1 h1
    constructor
    · intro hy
      obtain ⟨i, hi⟩ := List.mem_iff_getElem?.1 hy
      by_cases c : dx W x.p = i
      · subst c
        rw [List.getElem?_set_self hl] at hi
        left; exact (Option.some.inj hi).symm
      · rw [List.getElem?_set_ne c] at hi
        right
        refine ⟨List.mem_of_getElem? hi, fun e => c ?_⟩
        have hu := h.uniq (List.mem_of_getElem? hi) (List.mem_of_getElem? h1) (by rw [e, h2])
        obtain ⟨i1, i2⟩ := List.getElem?_eq_some_iff.1 hi
        have hp := List.pairwise_iff_getElem.1 h
        rcases Nat.lt_trichotomy (dx W x.p) i with c | c | c
        · have := hp _ i hl i1 c; rw [i2, hz, hu] at this; exact absurd rfl this
        · exact c
        · have := hp i _ i1 hl c; rw [i2, hz, hu] at this; exact absurd rfl this
    · rintro (rfl | ⟨hy, hne⟩)
      · exact List.mem_of_getElem? (List.getElem?_set_self hl)
      · obtain ⟨i, hi⟩ := List.mem_iff_getElem?.1 hy
        have : dx W x.p ≠ i := by
          intro c; subst c
          rw [hi] at h1; cases h1
          exact hne h2
        exact List.mem_of_getElem? ((List.getElem?_set_ne this).trans hi)
  · rw [if_neg hf]
    rw [List.mem_append, List.mem_singleton]
    constructor
    · rintro (hy | rfl)
      · exact .inr ⟨hy, fun e => hf (fdD_iff.2 ⟨y, hy, e⟩)⟩
      · exact .inl rfl
    · rintro (rfl | ⟨hy, _⟩)
      · exact .inr rfl
      · exact .inl hy
theorem withD_map {W : List Td} {x : Td} (hf : fdD W x.p = true) : (withD W x).map Td.p = W.map Td.p := by
  unfold withD
  rw [if_pos hf]
  obtain ⟨z, h1, h2, _⟩ := atD_get hf
  apply List.ext_getElem?
  intro i
  rw [List.getElem?_map, List.getElem?_map]
  by_cases c : dx W x.p = i
  · subst c
    rw [List.getElem?_set_self (List.getElem?_eq_some_iff.1 h1).1, h1]
    simp [h2]
  · rw [List.getElem?_set_ne c]
theorem nd_map {W : List Td} : Nd W ↔ (W.map Td.p).Pairwise (· ≠ ·) := by unfold Nd; rw [List.pairwise_map]
theorem Nd.withD {W : List Td} (h : Nd W) (x : Td) : Nd (withD W x) := by
  by_cases hf : fdD W x.p = true
  · rw [nd_map, withD_map hf, ← nd_map]; exact h
  · unfold Go.Proofs.YtpgiibpalmhhlaaGreatDoor.withD
    rw [if_neg hf]
    refine List.pairwise_append.2 ⟨h, List.pairwise_singleton _ _, fun a ha b hb => ?_⟩
    rw [List.mem_singleton] at hb
    subst hb
    exact fun e => hf (fdD_iff.2 ⟨a, ha, e⟩)
theorem withD_len (W : List Td) (x : Td) : (withD W x).length ≤ W.length + 1 := by
  unfold withD; split <;> simp
theorem withD_new {W : List Td} {x : Td} (h : fdD W x.p = false) : withD W x = W ++ [x] := by unfold withD; rw [h]; rfl

/-- a row and a thing that go together; marks are so much greater -/
def Mt (more : Int) (r : Rw) (x : Td) : Prop := r.p = x.p ∧ r.kind = x.k ∧ r.made = x.made ∧ r.id = x.id ∧ (x.made = false → r.mode = x.m + more)
/-- rows and things that go together -/
structure Co (more : Int) (L : List Rw) (W : List Td) : Prop where
  lr : ∀ r ∈ L, ∃ x ∈ W, Mt more r x
  rl : ∀ x ∈ W, ∃ r ∈ L, Mt more r x
  nd : Nd W
theorem Co.nil (more : Int) : Co more [] [] := ⟨(fun _ h => nomatch h), (fun _ h => nomatch h), List.Pairwise.nil⟩
theorem Co.has {more : Int} {L : List Rw} {W : List Td} (h : Co more L W) (hs : Srt L) (s : List UInt8) : fdD W s = fd L s := by
  cases hf : fd L s with
  | true =>
    obtain ⟨r, hr, e⟩ := fd_mem hf
    obtain ⟨x, hx, m⟩ := h.lr r hr
    exact fdD_iff.2 ⟨x, hx, by rw [← m.1, e]⟩
  | false =>
    cases hd : fdD W s with
    | false => rfl
    | true =>
      obtain ⟨x, hx, e⟩ := fdD_iff.1 hd
      obtain ⟨r, hr, m⟩ := h.rl x hx
      exact absurd (by rw [m.1, e]) (not_there hs hf r hr)
theorem Co.at {more : Int} {L : List Rw} {W : List Td} (h : Co more L W) (hs : Srt L) {s : List UInt8} (hf : fd L s = true) : Mt more (atR L s) (atD W s) := by
  obtain ⟨h1, h2⟩ := atR_mem hf
  obtain ⟨h3, h4⟩ := atD_mem ((h.has hs s).trans hf)
  obtain ⟨x, hx, m⟩ := h.lr _ h1
  have : x = atD W s := h.nd.uniq hx h3 (by rw [← m.1, h2, h4])
  rw [← this]; exact m
theorem Co.put {more : Int} {L : List Rw} {W : List Td} (h : Co more L W) (hs : Srt L) {r : Rw} {x : Td} (m : Mt more r x) : Co more (putL L r) (withD W x) := by
  refine ⟨fun q hq => ?_, fun y hy => ?_, h.nd.withD x⟩
  · rcases (mem_put hs r q).1 hq with rfl | ⟨h1, h2⟩
    · exact ⟨x, (mem_withD h.nd x x).2 (.inl rfl), m⟩
    · obtain ⟨y, hy, my⟩ := h.lr q h1
      exact ⟨y, (mem_withD h.nd x y).2 (.inr ⟨hy, by rw [← my.1, ← m.1]; exact h2⟩), my⟩
  · rcases (mem_withD h.nd x y).1 hy with rfl | ⟨h1, h2⟩
    · exact ⟨r, (mem_put hs r r).2 (.inl rfl), m⟩
    · obtain ⟨q, hq, mq⟩ := h.rl y h1
      exact ⟨q, (mem_put hs r q).2 (.inr ⟨hq, by rw [mq.1, m.1]; exact h2⟩), mq⟩
theorem Srt.nodup {L : List Rw} (h : Srt L) : (L.map Rw.p).Nodup := by
  unfold List.Nodup
  rw [List.pairwise_map]
  exact h.imp fun {a b} hab e => by rw [e] at hab; exact cmpL_irrefl _ hab
theorem Co.len {more : Int} {L : List Rw} {W : List Td} (h : Co more L W) (hs : Srt L) : W.length = L.length := by
  have h1 : (L.map Rw.p).Perm (W.map Td.p) := by
    refine (List.perm_ext_iff_of_nodup hs.nodup (nd_map.1 h.nd)).2 fun s => ?_
    rw [List.mem_map, List.mem_map]
    constructor
    · rintro ⟨r, hr, rfl⟩
      obtain ⟨x, hx, m⟩ := h.lr r hr
      exact ⟨x, hx, m.1.symm⟩
    · rintro ⟨x, hx, rfl⟩
      obtain ⟨r, hr, m⟩ := h.rl x hx
      exact ⟨r, hr, m.1⟩
  have := h1.length_eq
  rw [List.length_map, List.length_map] at this
  exact this.symm

/-- things that nobody named, one after another -/
def mkD (nx : Int) (M : List (List UInt8)) : List Td := M.mapIdx fun i u => ⟨u, 4, 0, true, nx + (i : Int)⟩
theorem parD_new : ∀ (M : List (List UInt8)) (W : List Td) (nx : Int), M.Nodup → (∀ u ∈ M, fdD W u = false) → parD M W nx = (W ++ mkD nx M, nx + (M.length : Int), 0)
  | [], W, nx, _, _ => by simp [parD, mkD]
  | u :: M, W, nx, hn, hf => by
    obtain ⟨h1, h2⟩ := List.nodup_cons.1 hn
    rw [parD, if_neg (by rw [hf u (List.mem_cons_self ..)]; simp), withD_new (hf u (List.mem_cons_self ..)),
      parD_new M _ _ h2 (fun v hv => by
        cases hd : fdD (W ++ [⟨u, 4, 0, true, nx⟩]) v with
        | false => rfl
        | true =>
          obtain ⟨x, hx, e⟩ := fdD_iff.1 hd
          rcases List.mem_append.1 hx with hx | hx
          · have := hf v (List.mem_cons_of_mem _ hv)
            rw [fdD_iff.2 ⟨x, hx, e⟩] at this; cases this
          · rw [List.mem_singleton] at hx
            subst hx
            have e : u = v := e
            subst e
            exact absurd hv h1)]
    refine Prod.ext ?_ (Prod.ext ?_ rfl)
    · show W ++ [_] ++ mkD (nx + 1) M = W ++ mkD nx (u :: M)
      unfold mkD
      rw [List.mapIdx_cons, List.append_assoc, List.singleton_append]
      simp only [Int.add_assoc]
      congr 2
      · simp
      · congr 1; funext i v; simp; omega
    · show nx + 1 + (M.length : Int) = nx + ((u :: M).length : Int)
      rw [List.length_cons]; omega
theorem parD_old : ∀ (A B : List (List UInt8)) (W : List Td) (nx : Int), (∀ u ∈ A, fdD W u = true ∧ (atD W u).k = 4) → parD (A ++ B) W nx = parD B W nx
  | [], B, W, nx, _ => rfl
  | u :: A, B, W, nx, h => by
    have := h u (List.mem_cons_self ..)
    rw [List.cons_append, parD, if_pos this.1, if_pos this.2]
    exact parD_old A B W nx fun v hv => h v (List.mem_cons_of_mem _ hv)

theorem jn_take_ne {ps : List (List UInt8)} (h : ps ≠ []) : ps ≠ [] := h
/-- the chain of a path, from above -/
theorem chain_rev (ps : List (List UInt8)) (h : ∀ p ∈ ps, Good p) : (chain (jn ps)).reverse = (List.range' 1 ps.length).map fun i => jn (ps.take i) := by
  generalize hn : ps.length = n
  induction n generalizing ps with
  | zero =>
    obtain rfl := List.length_eq_zero_iff.1 hn
    rw [show jn ([] : List (List UInt8)) = [] from rfl, chain_nil]; rfl
  | succ n ih =>
    have hne : ps ≠ [] := by intro e; rw [e] at hn; cases hn
    obtain ⟨qs, p, rfl⟩ : ∃ qs p, ps = qs ++ [p] := ⟨ps.dropLast, ps.getLast hne, (List.dropLast_concat_getLast hne).symm⟩
    have hq : qs.length = n := by rw [List.length_append, List.length_singleton] at hn; omega
    have hg : ∀ x ∈ qs, Good x := fun x hx => h x (List.mem_append_left _ hx)
    have hc : Cp (jn (qs ++ [p])) := ⟨_, hne, h, rfl⟩
    rw [chain_cons hc.ne, List.reverse_cons, up_jn _ h hne, List.dropLast_concat, ih qs hg hq, List.range'_1_concat, List.map_append, List.map_singleton]
    congr 1
    · refine List.map_congr_left fun i hi => ?_
      have := (List.mem_range'_1.1 hi)
      rw [List.take_append_of_le_length (by omega)]
    · rw [List.take_of_length_le (by rw [List.length_append, List.length_singleton]; omega)]

end Go.Proofs.YtpgiibpalmhhlaaGreatDoor
