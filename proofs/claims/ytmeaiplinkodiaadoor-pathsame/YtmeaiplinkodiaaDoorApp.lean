/-
  append to a row of strings of one's own, in a region that draws its order; a part put in between.
-/
import Derived.Test.YtmeaiplinkodiaaDoorLaw0
import Derived.Deep.AppendSrc
import Derived.Deep.Upon
import Derived.Deep.RegionLaw
namespace Go.Proofs.YtmeaiplinkodiaaDoor
open Go.RowKit
open Go.Lib hiding intOf
set_option linter.unusedVariables false
set_option linter.unusedSimpArgs false

theorem app_parts : ∃ i, Tryd.prog.info? 9 = some i ∧ i.zero = some (.string ⟨#[]⟩) ∧ i.size = 1 ∧ i.bytes = 16 := by
  have h := info_str
  cases hi : Tryd.prog.info? 9 with
  | none => rw [hi] at h; simp at h
  | some i => rw [hi] at h; simp at h; exact ⟨i, rfl, h.1, h.2.1, h.2.2⟩

theorem strs_app (ps qs : List (List UInt8)) : strs ps ++ strs qs = strs (ps ++ qs) := by simp [strs]

/-- a list behind a row of one's own -/
theorem app_run {W : World} (B : Nat) (v : Value) (n : Nat) (ps qs : List (List UInt8)) (hown : W.ownsRow B 9 1 v n (strs ps)) (ad2 : Option Addr) (c2 : Nat) (h2 : Sl W ad2 qs) (hB : B ≤ W.heap.size) (hlen : n + qs.length ≤ 100000) (ty : TypeId) :
    ∃ v' w', (Builtin.append_ #[23, 23] ty #[v, .slice ad2 qs.length c2]).run Tryd.prog W = .ok v' w' ∧ w'.ownsRow B 9 1 v' (n + qs.length) (strs (ps ++ qs)) ∧ W.grownBy w' v.ownBlock := by
  obtain ⟨i, hi, hz0, hz1, hz2⟩ := app_parts
  cases ad2 with
  | none =>
    have hq : qs = [] := by
      rcases h2 with h | ⟨b, o, h, _⟩
      · exact h
      · cases h
    subst hq
    have hsrc : Src Tryd.prog i.size 23 (.slice none 0 c2) 0 [] W := by rw [hz1]; exact Src.ofNil W Tryd.underlying23 c2
    have hg : W.grownBy W v.ownBlock := ⟨rfl, rfl, rfl, Nat.le_refl _, fun _ _ _ => rfl⟩
    refine ⟨v, W, ?_, by simpa using hown, hg⟩
    rcases hown.2 with ⟨rfl, rfl⟩ | ⟨g, cap, cur, rfl, _, _, hc, _⟩
    · exact run_append_nothing (P := Tryd.prog) W 23 23 ty 9 i Tryd.underlying23 hi none 0 0 (Nat.le_refl _) _ hsrc
    · exact run_append_nothing (P := Tryd.prog) W 23 23 ty 9 i Tryd.underlying23 hi (some ⟨g, 0, none⟩) n cap hc _ hsrc
  | some a =>
    have hcells : ∀ j u, (strs qs)[j]? = some u → W.cell? (a.add j) = some u := by
      intro j u hj
      rcases h2 with h | ⟨b, o, h, _, h3⟩
      · rw [h] at hj; simp [strs] at hj
      · cases h
        simp only [strs, List.getElem?_map, Option.map_eq_some_iff] at hj
        obtain ⟨x, hx, rfl⟩ := hj
        have := h3 j x hx
        by_cases h0 : j = 0
        · subst h0; simpa [Addr.add] using this
        · simpa [Addr.add, h0] using this
    obtain ⟨v', w', hr, ho, hgr, _⟩ := run_append_own (P := Tryd.prog) W B 23 ty 9 i (.string ⟨#[]⟩) 1 16 Tryd.underlying23 hi hz0 hz1 hz2 rfl (by decide) v n (strs ps) hown a qs.length c2 (strs qs) (by simp [strs]) hcells
      (fun u hu => by obtain ⟨x, _, rfl⟩ := List.mem_map.1 hu; rfl) (by unfold maxLen; omega) (by omega) hB
    exact ⟨v', w', hr, by rw [← strs_app]; exact ho, hgr⟩

/-- the same, as a step of a region that draws its order -/
theorem step_app {ops : Array Oper} {o : Oper} {a : Act} {W : World} {K : Act → World → Prop} {Q : Exit → Act → World → Prop} {E : Prop} (hgd : o.guard = none) (s x : Operand)
    (ho : o.op = Op.call { callee := Callee.builtin Builtin.append, args := #[s, x], argTypes := #[23, 23] })
    (v : Value) (hs : a.eval s = v) (ad2 : Option Addr) (m c2 : Nat) (hx : a.eval x = .slice ad2 m c2)
    (B : Nat) (W0 : World) (n : Nat) (ps qs : List (List UInt8)) (hm : qs.length = m) (hown : W.ownsRow B 9 1 v n (strs ps)) (h2 : Sl W ad2 qs) (hb : Below B W0 W) (hB : B ≤ W0.heap.size) (hlen : n + m ≤ 100000)
    (h : ∀ v' w', w'.ownsRow B 9 1 v' (n + m) (strs (ps ++ qs)) → W.grownBy w' v.ownBlock → Below B W0 w' → K (a.put o.dst v') w') :
    if Region.wanted o (yielded ops a.tmps) = true then Oper.wp Tryd.prog o a W K Q else E := by
  have hw : Region.wanted o (yielded ops a.tmps) = true := by simp [Region.wanted, hgd]
  rw [if_pos hw]
  subst hm
  have hBW : B ≤ W.heap.size := Nat.le_trans hB hb.size
  obtain ⟨v', w', hr, ho', hg⟩ := app_run B v n ps qs hown ad2 c2 h2 hBW hlen o.type
  unfold Oper.wp
  simp [execOp, ho, resolve, invoke, builtin, hs, hx, hr, Result.andThen]
  exact h v' w' ho' hg (hb.grown hg hBW fun k hk => (hown.lt k hk).1)

theorem own_fresh (w : World) (B k : Nat) (hk : k = w.heap.size) (hB : B ≤ w.heap.size) : (w.alloc (.cells #[] 9)).ownsRow B 9 1 (.slice (some ⟨k, 0, none⟩) 0 0) 0 (strs []) := by
  subst hk
  exact ⟨by simp [strs], .inr ⟨w.heap.size, 0, #[], rfl, hB, heap_alloc_new w _, Nat.le_refl _, by decide, by simp, by simp [strs]⟩⟩

theorem sl_one (w : World) (k : Nat) (hk : k = w.heap.size) (x : List UInt8) : Sl (w.alloc (.cells #[.string (bs x)] 9)) (some ⟨k, 0, none⟩) [x] := by
  subst hk
  refine .inr ⟨w.heap.size, 0, rfl, by simp, fun i y hy => ?_⟩
  match i, hy with
  | 0, hy => cases hy; simp
  | i + 1, hy => simp at hy

theorem sl_kept {w w' : World} {row : Option Nat} {k : Nat} {x : List UInt8} (h : Sl w (some ⟨k, 0, none⟩) [x]) (hg : w.grownBy w' row) (hne : some k ≠ row) : Sl w' (some ⟨k, 0, none⟩) [x] := by
  rcases h with h | ⟨b, o, h1, h2, h3⟩
  · cases h
  · cases h1
    refine .inr ⟨k, 0, rfl, Nat.lt_of_lt_of_le h2 hg.size, fun i y hy => hg.cell (h3 i y hy) hne⟩

theorem Sl.drop {w : World} {b o : Nat} {ps : List (List UInt8)} (h : Sl w (some ⟨b, o, none⟩) ps) (k : Nat) : Sl w (some ⟨b, o + k, none⟩) (ps.drop k) := by
  rcases h with h | ⟨b', o', h1, h2, h3⟩
  · subst h; exact .inl (by simp)
  · cases h1
    refine .inr ⟨b, o + k, rfl, h2, fun i x hx => ?_⟩
    rw [List.getElem?_drop] at hx
    have := h3 _ x hx
    rwa [← Nat.add_assoc] at this

theorem Sl.taken {w : World} {ad : Option Addr} {ps : List (List UInt8)} (h : Sl w ad ps) (k : Nat) : Sl w ad (ps.take k) := by
  rcases h with h | ⟨b, o, h1, h2, h3⟩
  · subst h; exact .inl (by simp)
  · refine .inr ⟨b, o, h1, h2, fun i x hx => h3 i x ?_⟩
    rw [List.getElem?_take] at hx
    split at hx
    · exact hx
    · simp at hx

/-! a part that is none, put in between -/

theorem put_path (ps : List (List UInt8)) (hg : ∀ p ∈ ps, Good p) (a : Nat) (m : List UInt8) (hm : m = [] ∨ m = [46]) (hl : (jn (ps.take a ++ [m] ++ ps.drop a ++ [[]])).length ≤ 4000) (hh : (jn (ps.take a ++ [m] ++ ps.drop a ++ [[]])).head? ≠ some 47) :
    err (jn (ps.take a ++ [m] ++ ps.drop a ++ [[]])) = 0 ∧ cln (jn (ps.take a ++ [m] ++ ps.drop a ++ [[]])) = ps := by
  have hmem : ∀ x ∈ ps.take a ++ [m] ++ ps.drop a ++ [[]], Good x ∨ x = [] ∨ x = [46] := fun x hx => by
    simp only [List.mem_append, List.mem_singleton] at hx
    rcases hx with ((h | h) | h) | h
    · exact .inl (hg x (List.mem_of_mem_take h))
    · subst h; exact .inr hm
    · exact .inl (hg x (List.mem_of_mem_drop h))
    · exact .inr (.inl h)
  have hk : keep m = false := by rcases hm with h | h <;> subst h <;> decide
  have hf : (ps.take a ++ [m] ++ ps.drop a ++ [[]]).filter keep = ps := by
    rw [List.filter_append, List.filter_append, List.filter_append, filter_good _ (fun p hp => hg p (List.mem_of_mem_take hp)), filter_good _ (fun p hp => hg p (List.mem_of_mem_drop hp))]
    have e1 : [m].filter keep = [] := by rw [List.filter_cons_of_neg (by simp [hk])]; rfl
    have e2 : [([] : List UInt8)].filter keep = [] := by decide
    rw [e1, e2, List.append_nil, List.append_nil, List.take_append_drop]
  have hlen : 2 ≤ (ps.take a ++ [m] ++ ps.drop a ++ [[]]).length := by simp only [List.length_append, List.length_cons, List.length_nil]; omega
  have hs : ∀ x ∈ ps.take a ++ [m] ++ ps.drop a ++ [[]], Snd x := fun x hx => by
    rcases hmem x hx with h | h | h
    · exact h.snd
    · subst h; exact ⟨by simp, by simp, validD_nil⟩
    · subst h; exact ⟨by decide, by decide, by decide⟩
  have hbad : badOf (ps.take a ++ [m] ++ ps.drop a ++ [[]]) = 0 := (badOf_zero _).2 fun p hp hkp => by
    rcases hmem p hp with h | h | h
    · exact ⟨h.2.2.1, h.2.2.2.1⟩
    · subst h; exact absurd hkp (by decide)
    · subst h; exact absurd hkp (by decide)
  generalize ps.take a ++ [m] ++ ps.drop a ++ [[]] = R at *
  match R, hlen with
  | p :: q :: r, _ =>
    have hp : p ≠ [] := by
      intro e
      subst e
      rw [jn_cons] at hh
      exact hh rfl
    have h1 : snd0 (jn (p :: q :: r)) = 0 := snd_jn p (q :: r) hp hs hl
    have h2 : spl (jn (p :: q :: r)) = p :: q :: r := spl_jn _ (by simp) fun x hx => (hs x hx).1
    have h3 : err (jn (p :: q :: r)) = 0 := by rw [err_of _ h1, h2]; exact hbad
    refine ⟨h3, ?_⟩
    unfold cln parts
    rw [if_pos h3, h2, hf]

theorem put_slash (ps : List (List UInt8)) (a : Nat) (m : List UInt8) : bs (jn (ps.take a ++ [m] ++ ps.drop a)) ++ (⟨#[47]⟩ : ByteArray) = bs (jn (ps.take a ++ [m] ++ ps.drop a ++ [[]])) := by
  rw [jn_append (ps.take a ++ [m] ++ ps.drop a) [[]] (by simp) (by simp), jn_one]
  exact bs_app _ [47]

end Go.Proofs.YtmeaiplinkodiaaDoor
