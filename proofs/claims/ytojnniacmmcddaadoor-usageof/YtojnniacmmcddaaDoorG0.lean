/-
  Plain: how much a tree has, by its numbers.
-/
import Derived.Test.YtojnniacmmcddaaDoorN0
namespace Go.Proofs.YtojnniacmmcddaaDoor
open Go.RowKit
open Go.Lib hiding intOf
set_option linter.unusedVariables false
set_option linter.unusedSimpArgs false

/-- rows that can be measured -/
theorem Sd.okr {L : List Rw} {nx : Int} (h : Sd L nx) (hn : nx ≤ 900000000000) : ∀ r ∈ L, Okr r := fun r hr => by
  have h1 := h.ok r hr
  have h2 := h.id r hr
  exact ⟨by omega, by omega, h1.2⟩

theorem Cp.prt {s : List UInt8} (h : Cp s) : prt s = parts s := by
  obtain ⟨ps, h1, h2, rfl⟩ := h
  rw [prt_jn ps h2, parts_good_jn ps h1 h2]

/-- a row of a number that is new among the rows behind it -/
theorem fold_new : ∀ (B : List Rw) (u v : Us) (k : Nat) (z : Int), v.b = u.b + k → v.n = u.n + 1 → u.d ≤ v.d → u.l ≤ v.l → (∀ i, i ∈ v.S ↔ i = z ∨ i ∈ u.S) → (∀ r ∈ B, r.id ≠ z) →
    (B.foldl stepU v).b = (B.foldl stepU u).b + k ∧ (B.foldl stepU v).n = (B.foldl stepU u).n + 1 ∧ (B.foldl stepU u).d ≤ (B.foldl stepU v).d ∧ (B.foldl stepU u).l ≤ (B.foldl stepU v).l
  | [], u, v, k, z, h1, h2, h3, h4, _, _ => ⟨h1, h2, h3, h4⟩
  | r :: B, u, v, k, z, h1, h2, h3, h4, h5, h6 => by
    have hz : r.id ≠ z := h6 r (by simp)
    have hm : r.id ∈ v.S ↔ r.id ∈ u.S := by rw [h5]; simp [hz]
    rw [List.foldl_cons, List.foldl_cons]
    unfold stepU
    by_cases c : r.p = []
    · rw [if_pos c, if_pos c]
      exact fold_new B u v k z h1 h2 h3 h4 h5 (fun q hq => h6 q (List.mem_cons_of_mem _ hq))
    · rw [if_neg c, if_neg c]
      by_cases d : r.id ∈ u.S
      · rw [if_pos d, if_pos (hm.2 d)]
        exact fold_new B _ _ k z h1 h2 (by show max _ _ ≤ max _ _; omega) (by show max _ _ ≤ max _ _; omega) h5 (fun q hq => h6 q (List.mem_cons_of_mem _ hq))
      · rw [if_neg d, if_neg (fun e => d (hm.1 e))]
        refine fold_new B _ _ k z (by show v.b + _ = u.b + _ + k; omega) (by show v.n + 1 = u.n + 1 + 1; omega) (by show max _ _ ≤ max _ _; omega) (by show max _ _ ≤ max _ _; omega) ?_ (fun q hq => h6 q (List.mem_cons_of_mem _ hq))
        intro i
        show i ∈ r.id :: v.S ↔ i = z ∨ i ∈ r.id :: u.S
        rw [List.mem_cons, List.mem_cons, h5]
        constructor
        · rintro (e | e | e)
          · exact .inr (.inl e)
          · exact .inl e
          · exact .inr (.inr e)
        · rintro (e | e | e)
          · exact .inr (.inl e)
          · exact .inl e
          · exact .inr (.inr e)

theorem ofU_S (L : List Rw) : ∀ i ∈ (ofU L).S, ∃ r ∈ L, r.id = i := by
  suffices H : ∀ (L : List Rw) (u : Us) (i : Int), i ∈ (L.foldl stepU u).S → i ∈ u.S ∨ ∃ r ∈ L, r.id = i by
    intro i hi
    rcases H L ⟨0, 0, 0, 0, []⟩ i hi with h | h
    · cases h
    · exact h
  intro L
  induction L with
  | nil => intro u i h; exact .inl h
  | cons r L ih =>
    intro u i h
    rw [List.foldl_cons] at h
    rcases ih _ i h with h | ⟨q, hq, e⟩
    · unfold stepU at h
      split at h
      · exact .inl h
      · split at h
        · exact .inl h
        · rcases List.mem_cons.1 h with e | e
          · exact .inr ⟨r, by simp, e.symm⟩
          · exact .inl e
    · exact .inr ⟨q, List.mem_cons_of_mem _ hq, e⟩

/-- with one row of a new number more -/
theorem ofU_ins (A B : List Rw) (r : Rw) (hp : r.p ≠ []) (h : ∀ q ∈ A ++ B, q.id ≠ r.id) : (ofU (A ++ [r] ++ B)).b = (ofU (A ++ B)).b + bytesN r ∧ (ofU (A ++ [r] ++ B)).n = (ofU (A ++ B)).n + 1 ∧ (ofU (A ++ B)).d ≤ (ofU (A ++ [r] ++ B)).d ∧ (ofU (A ++ B)).l ≤ (ofU (A ++ [r] ++ B)).l := by
  unfold ofU
  rw [List.append_assoc, List.foldl_append, List.foldl_append, List.foldl_append]
  have hS : r.id ∉ (ofU A).S := fun e => by
    obtain ⟨q, hq, e⟩ := ofU_S A _ e
    exact h q (List.mem_append.2 (.inl hq)) e
  unfold ofU at hS
  generalize A.foldl stepU ⟨0, 0, 0, 0, []⟩ = u at *
  have e : [r].foldl stepU u = ⟨u.b + bytesN r, u.n + 1, max u.d (prt r.p).length, max u.l r.p.length, r.id :: u.S⟩ := by
    show stepU u r = _
    unfold stepU
    rw [if_neg hp, if_neg hS]
  rw [e]
  exact fold_new B u _ (bytesN r) r.id rfl rfl (by show u.d ≤ max _ _; omega) (by show u.l ≤ max _ _; omega) (fun i => by show i ∈ r.id :: u.S ↔ _; rw [List.mem_cons]) (fun q hq => h q (List.mem_append.2 (.inr hq)))

/-- with many rows of new numbers more, at one place -/
theorem ofU_many : ∀ (N A B : List Rw), (∀ q ∈ N, q.p ≠ []) → (∀ q ∈ N, q.kind ≠ 1) → (N.Pairwise fun a b => a.id ≠ b.id) → (∀ q ∈ A ++ B, ∀ r ∈ N, q.id ≠ r.id) → (ofU (A ++ N ++ B)).b = (ofU (A ++ B)).b ∧ (ofU (A ++ B)).n ≤ (ofU (A ++ N ++ B)).n ∧ (ofU (A ++ B)).d ≤ (ofU (A ++ N ++ B)).d ∧ (ofU (A ++ B)).l ≤ (ofU (A ++ N ++ B)).l
  | [], A, B, _, _, _, _ => by simp
  | r :: N, A, B, h1, h2, h3, h4 => by
    obtain ⟨p1, p2⟩ := List.pairwise_cons.1 h3
    have k := ofU_many N (A ++ [r]) B (fun q hq => h1 q (List.mem_cons_of_mem _ hq)) (fun q hq => h2 q (List.mem_cons_of_mem _ hq)) p2 (by
      intro q hq s hs
      rcases List.mem_append.1 hq with hq | hq
      · rcases List.mem_append.1 hq with hq | hq
        · exact h4 q (List.mem_append.2 (.inl hq)) s (List.mem_cons_of_mem _ hs)
        · rw [List.mem_singleton.1 hq]; exact p1 s hs
      · exact h4 q (List.mem_append.2 (.inr hq)) s (List.mem_cons_of_mem _ hs))
    have m := ofU_ins A B r (h1 r (by simp)) (fun q hq => h4 q hq r (by simp))
    have hb : bytesN r = 0 := by unfold bytesN; rw [if_neg (h2 r (by simp))]
    have e : A ++ (r :: N) ++ B = A ++ [r] ++ N ++ B := by simp
    rw [e]
    exact ⟨by rw [k.1, m.1, hb, Nat.add_zero], by omega, by omega, by omega⟩

theorem mkAll_id {nx : Int} {M : List (List UInt8)} {i : Nat} {r : Rw} (h : (mkAll nx M)[i]? = some r) : r.id = nx + (i : Int) := by
  unfold mkAll at h
  rw [List.getElem?_mapIdx] at h
  cases hx : M.reverse[i]? with
  | none => rw [hx] at h; cases h
  | some x => rw [hx] at h; rw [← Option.some.inj h]

/-- the rows that are made -/
theorem ofU_wp {L : List Rw} {nx : Int} {s : List UInt8} (h : Sd L nx) (hs : Cp s) : (ofU (wpR L nx s)).b = (ofU L).b ∧ (ofU L).n ≤ (ofU (wpR L nx s)).n ∧ (ofU L).d ≤ (ofU (wpR L nx s)).d ∧ (ofU L).l ≤ (ofU (wpR L nx s)).l := by
  unfold wpR
  cases hg : (mdL L s).getLast? with
  | none => exact ⟨rfl, Nat.le_refl _, Nat.le_refl _, Nat.le_refl _⟩
  | some t =>
    have e := List.take_append_drop (ix L t) L
    have k := ofU_many (mkAll nx (mdL L s)) (L.take (ix L t)) (L.drop (ix L t)) (by
      intro q hq
      obtain ⟨i, x, hx, rfl⟩ := (mkAll_get _ _ _).1 hq
      exact (md_cp hs (List.mem_reverse.1 (List.mem_of_getElem? hx))).ne) (by
      intro q hq
      obtain ⟨i, x, hx, rfl⟩ := (mkAll_get _ _ _).1 hq
      show (4 : Int) ≠ 1
      omega) (by
      rw [List.pairwise_iff_getElem]
      intro i j hi hj hij
      rw [mkAll_id (List.getElem?_eq_getElem hi), mkAll_id (List.getElem?_eq_getElem hj)]
      omega) (by
      intro q hq r hr
      rw [e] at hq
      obtain ⟨i, x, hx, rfl⟩ := (mkAll_get _ _ _).1 hr
      have := h.id q hq
      show q.id ≠ nx + (i : Int)
      omega)
    rw [e] at k
    exact k

/-- a row that is laid where none stood -/
theorem ofU_put {L : List Rw} {r : Rw} (hf : fd L r.p = false) (hp : r.p ≠ []) (h : ∀ q ∈ L, q.id ≠ r.id) : (ofU (putL L r)).b = (ofU L).b + bytesN r ∧ (ofU (putL L r)).n = (ofU L).n + 1 ∧ (ofU L).d ≤ (ofU (putL L r)).d ∧ (ofU L).l ≤ (ofU (putL L r)).l := by
  have e : putL L r = L.take (ix L r.p) ++ [r] ++ L.drop (ix L r.p) := by unfold putL; rw [hf]; simp
  have e2 := List.take_append_drop (ix L r.p) L
  rw [e]
  have k := ofU_ins (L.take (ix L r.p)) (L.drop (ix L r.p)) r hp (fun q hq => h q (by rw [e2] at hq; exact hq))
  rw [e2] at k
  exact k

theorem fd_wp {L : List Rw} {nx : Int} {s : List UInt8} (h : Sd L nx) (hs : Cp s) (hf : fd L s = false) : fd (wpR L nx s) s = false := by
  cases hq : fd (wpR L nx s) s with
  | false => rfl
  | true =>
    exfalso
    obtain ⟨r, hr, e⟩ := fd_mem hq
    rcases wpR_mem.1 hr with hr | hr
    · exact not_there h.srt hf r hr e
    · obtain ⟨i, x, hx, rfl⟩ := (mkAll_get _ _ _).1 hr
      have hxm : x ∈ mdL L s := List.mem_reverse.1 (List.mem_of_getElem? hx)
      have h1 := (chain_le _ x (md_chain hxm)).1
      have h2 := up_len hs.ne
      have e3 : x.length = s.length := congrArg List.length e
      omega

/-- with a thing more a tree has no less -/
theorem grows {q : List Rw × Int} {x : Tg} (h : Sd q.1 q.2) (ht : x.t = []) (hf : fd q.1 (jn (cln x.p)) = false) :
    (ofU q.1).b ≤ (ofU (pStep q x).1).b ∧ (ofU q.1).n ≤ (ofU (pStep q x).1).n ∧ (ofU q.1).d ≤ (ofU (pStep q x).1).d ∧ (ofU q.1).l ≤ (ofU (pStep q x).1).l ∧ (ofU (pStep q x).1).b ≤ (ofU q.1).b + 1048576 := by
  have same : (ofU q.1).b ≤ (ofU q.1).b ∧ (ofU q.1).n ≤ (ofU q.1).n ∧ (ofU q.1).d ≤ (ofU q.1).d ∧ (ofU q.1).l ≤ (ofU q.1).l ∧ (ofU q.1).b ≤ (ofU q.1).b + 1048576 := by omega
  unfold pStep
  by_cases c0 : err x.p ≠ 0 ∨ x.z < 0 ∨ x.z > 1048576 ∨ x.p.length > 300
  · rw [if_pos c0]; exact same
  · rw [if_neg c0, if_neg (fun e => e ht)]
    have he : err x.p = 0 := Classical.byContradiction fun e => c0 (.inl e)
    have hcp := cln_cp he
    have hsl := cln_len x.p
    have key : ∀ kd sz : Int, 0 ≤ sz ∧ sz ≤ 1048576 → (ofU q.1).b ≤ (ofU (addP q.1 q.2 (jn (cln x.p)) kd 0 sz false).1).b ∧ (ofU q.1).n ≤ (ofU (addP q.1 q.2 (jn (cln x.p)) kd 0 sz false).1).n ∧ (ofU q.1).d ≤ (ofU (addP q.1 q.2 (jn (cln x.p)) kd 0 sz false).1).d ∧ (ofU q.1).l ≤ (ofU (addP q.1 q.2 (jn (cln x.p)) kd 0 sz false).1).l ∧ (ofU (addP q.1 q.2 (jn (cln x.p)) kd 0 sz false).1).b ≤ (ofU q.1).b + 1048576 := by
      intro kd sz hz
      unfold addP
      by_cases e0 : jn (cln x.p) = []
      · rw [if_pos e0]; exact same
      · have hc : Cp (jn (cln x.p)) := hcp.resolve_left e0
        rw [if_neg e0, hf, if_neg (by simp)]
        by_cases hcl : cls q.1 (jn (cln x.p)) = true
        · rw [if_pos hcl]; exact same
        · have hcl : cls q.1 (jn (cln x.p)) = false := by simpa using hcl
          rw [hcl, if_neg (by simp)]
          have hw := (h.wp hc (by omega) hcl).1
          have k1 := ofU_wp (nx := q.2) h hc
          have k2 := ofU_put (L := wpR q.1 q.2 (jn (cln x.p))) (r := ⟨jn (cln x.p), q.2 + ((mdL q.1 (jn (cln x.p))).length : Int), kd, 0, sz, false⟩) (fd_wp h hc hf) e0 (fun r hr => by
            have := hw.id r hr
            show r.id ≠ q.2 + ((mdL q.1 (jn (cln x.p))).length : Int)
            omega)
          have hb : bytesN ⟨jn (cln x.p), q.2 + ((mdL q.1 (jn (cln x.p))).length : Int), kd, 0, sz, false⟩ ≤ 1048576 := by
            unfold bytesN
            split
            · show sz.toNat ≤ _; omega
            · omega
          refine ⟨?_, ?_, ?_, ?_, ?_⟩ <;> simp only [] <;> omega
    split
    · exact key 1 x.z (by omega)
    · split
      · exact key x.k 0 (by omega)
      · exact same

end Go.Proofs.YtojnniacmmcddaaDoor
