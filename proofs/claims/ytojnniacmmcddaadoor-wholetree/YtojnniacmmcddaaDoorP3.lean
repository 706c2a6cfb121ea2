/-
  Plain: trees that are trees; the directories that are made.
-/
import Derived.Test.YtojnniacmmcddaaDoorP2
namespace Go.Proofs.YtojnniacmmcddaaDoor
open Go.RowKit
open Go.Lib hiding intOf
set_option linter.unusedVariables false
set_option linter.unusedSimpArgs false

theorem Srt.uniq {L : List Rw} (h : Srt L) {r q : Rw} (hr : r ∈ L) (hq : q ∈ L) (e : r.p = q.p) : r = q := by
  induction L with
  | nil => cases hr
  | cons a L ih =>
    obtain ⟨h1, h2⟩ := List.pairwise_cons.1 h
    rcases List.mem_cons.1 hr with e1 | hr1
    · rcases List.mem_cons.1 hq with e2 | hq1
      · rw [e1, e2]
      · have := h1 q hq1; rw [← e1, e] at this; exact absurd this (cmpL_irrefl _)
    · rcases List.mem_cons.1 hq with e2 | hq1
      · have := h1 r hr1; rw [← e2, e] at this; exact absurd this (cmpL_irrefl _)
      · exact ih h2 hr1 hq1

theorem fd_of {L : List Rw} (h : Srt L) {r : Rw} (hr : r ∈ L) : fd L r.p = true := by
  cases hf : fd L r.p with
  | true => rfl
  | false => exact absurd rfl (not_there h hf r hr)

theorem fd_mem {L : List Rw} {s : List UInt8} (hf : fd L s = true) : ∃ r ∈ L, r.p = s := by
  obtain ⟨r, h1, h2⟩ := fd_some hf
  exact ⟨r, List.mem_of_getElem? h1, h2⟩

theorem atR_mem {L : List Rw} {s : List UInt8} (hf : fd L s = true) : atR L s ∈ L ∧ (atR L s).p = s := by
  obtain ⟨r, h1, h2⟩ := fd_some hf
  have : atR L s = r := by unfold atR; rw [hf, h1]; rfl
  rw [this]
  exact ⟨List.mem_of_getElem? h1, h2⟩

theorem atR_of {L : List Rw} (h : Srt L) {r : Rw} (hr : r ∈ L) : atR L r.p = r := by
  have hm := atR_mem (fd_of h hr)
  exact h.uniq hm.1 hr hm.2

/-- a tree that is one -/
structure Sd (L : List Rw) (nx : Int) : Prop where
  srt : Srt L
  cp : ∀ r ∈ L, Cp r.p
  up : ∀ r ∈ L, upL r.p = [] ∨ ∃ q ∈ L, q.p = upL r.p ∧ q.kind = 4
  id : ∀ r ∈ L, 0 ≤ r.id ∧ r.id < nx
  one : ∀ r ∈ L, ∀ q ∈ L, r.id = q.id → r = q ∨ (r.kind = 1 ∧ q.kind = 1 ∧ r.size = q.size)
  ok : ∀ r ∈ L, r.p.length ≤ 1000 ∧ 0 ≤ r.size ∧ r.size ≤ 1048576
  nn : 0 ≤ nx

theorem Sd.nil : Sd [] 0 := ⟨List.Pairwise.nil, (fun _ h => nomatch h), (fun _ h => nomatch h), (fun _ h => nomatch h), (fun _ h => nomatch h), (fun _ h => nomatch h), by omega⟩

/-- above what stands all stand -/
theorem Sd.above {L : List Rw} {nx : Int} (h : Sd L nx) {r : Rw} (hr : r ∈ L) {t : List UInt8} (ht : t ∈ chain r.p) : ∃ q ∈ L, q.p = t := by
  generalize hn : r.p.length = n
  induction n using Nat.strongRecOn generalizing r with
  | _ n ih =>
    have hne := (h.cp r hr).ne
    rw [chain_cons hne] at ht
    rcases List.mem_cons.1 ht with rfl | ht
    · exact ⟨r, hr, rfl⟩
    · rcases h.up r hr with e | ⟨q, hq, e, _⟩
      · rw [e, chain_nil] at ht; cases ht
      · have := up_len hne
        exact ih q.p.length (by rw [e]; omega) hq (by rw [e]; exact ht) rfl

def mdL (L : List Rw) (s : List UInt8) : List (List UInt8) := (chain (upL s)).takeWhile fun x => !fd L x
def stL (L : List Rw) (s : List UInt8) : List (List UInt8) := (chain (upL s)).dropWhile fun x => !fd L x
def cls (L : List Rw) (s : List UInt8) : Bool := match stL L s with | [] => false | y :: _ => decide ((atR L y).kind ≠ 4)
def mkAll (nx : Int) (M : List (List UInt8)) : List Rw := M.reverse.mapIdx fun i x => { mkR x with id := nx + (i : Int) }
def wpR (L : List Rw) (nx : Int) (s : List UInt8) : List Rw := match (mdL L s).getLast? with
  | none => L
  | some t => L.take (ix L t) ++ mkAll nx (mdL L s) ++ L.drop (ix L t)

theorem md_st (L : List Rw) (s : List UInt8) : chain (upL s) = mdL L s ++ stL L s := List.takeWhile_append_dropWhile.symm

theorem tw_mem {α : Type} (p : α → Bool) : ∀ (l : List α) (x : α), x ∈ l.takeWhile p → p x = true
  | [], x, h => by cases h
  | a :: l, x, h => by
    rw [List.takeWhile_cons] at h
    split at h
    · next e =>
      rcases List.mem_cons.1 h with rfl | h
      · exact e
      · exact tw_mem p l x h
    · cases h

theorem dw_head {α : Type} (p : α → Bool) : ∀ (l : List α) (y : α) (r : List α), l.dropWhile p = y :: r → p y = false
  | [], y, r, h => by cases h
  | a :: l, y, r, h => by
    rw [List.dropWhile_cons] at h
    split at h
    · exact dw_head p l y r h
    · next e => injection h with h1 _; subst h1; simpa using e

theorem md_fd {L : List Rw} {s x : List UInt8} (h : x ∈ mdL L s) : fd L x = false := by
  have := tw_mem _ _ _ h
  simpa using this

theorem st_fd {L : List Rw} {s y : List UInt8} {r : List (List UInt8)} (h : stL L s = y :: r) : fd L y = true := by
  have := dw_head _ _ _ _ h
  simpa using this

theorem chain_top (u : List UInt8) : u = [] ∨ (chain u).head? = some u := by
  by_cases h : u = []
  · exact .inl h
  · right; rw [chain_cons h]; rfl

theorem chain_up : ∀ (A B : List (List UInt8)) (u : List UInt8), chain u = A ++ B → ∀ x ∈ A, upL x = [] ∨ upL x ∈ A ∨ B.head? = some (upL x)
  | [], B, u, h, x, hx => by cases hx
  | a :: A, B, u, h, x, hx => by
    have hu : u ≠ [] := fun e => by rw [e, chain_nil] at h; cases h
    rw [chain_cons hu] at h
    injection h with h1 h2
    subst h1
    rcases List.mem_cons.1 hx with rfl | hx
    · rcases chain_top (upL x) with e | e
      · exact .inl e
      · right
        rw [h2] at e
        cases A with
        | nil => exact .inr e
        | cons b A => left; simp at e; rw [e]; simp
    · rcases chain_up A B (upL u) h2 x hx with e | e | e
      · exact .inl e
      · exact .inr (.inl (List.mem_cons_of_mem _ e))
      · exact .inr (.inr e)

theorem mkAll_map (nx : Int) (M : List (List UInt8)) : (mkAll nx M).map Rw.p = M.reverse := by
  unfold mkAll
  apply List.ext_getElem?
  intro i
  rw [List.getElem?_map, List.getElem?_mapIdx]
  cases M.reverse[i]? <;> rfl

theorem mkAll_length (nx : Int) (M : List (List UInt8)) : (mkAll nx M).length = M.length := by
  unfold mkAll; rw [List.length_mapIdx, List.length_reverse]

theorem mkAll_get (nx : Int) (M : List (List UInt8)) (q : Rw) : q ∈ mkAll nx M ↔ ∃ (i : Nat) (x : List UInt8), M.reverse[i]? = some x ∧ q = { mkR x with id := nx + (i : Int) } := by
  rw [List.mem_iff_getElem?]
  constructor
  · rintro ⟨i, hi⟩
    unfold mkAll at hi
    rw [List.getElem?_mapIdx] at hi
    cases hx : M.reverse[i]? with
    | none => rw [hx] at hi; cases hi
    | some x => rw [hx] at hi; exact ⟨i, x, hx, (Option.some.inj hi).symm⟩
  · rintro ⟨i, x, hx, rfl⟩
    refine ⟨i, ?_⟩
    unfold mkAll
    rw [List.getElem?_mapIdx, hx]
    rfl

theorem mem_ins {L N : List Rw} {i : Nat} {q : Rw} : q ∈ L.take i ++ N ++ L.drop i ↔ q ∈ L ∨ q ∈ N := by
  constructor
  · intro h
    rcases List.mem_append.1 h with h | h
    · rcases List.mem_append.1 h with h | h
      · exact .inl (List.mem_of_mem_take h)
      · exact .inr h
    · exact .inl (List.mem_of_mem_drop h)
  · rintro (h | h)
    · rw [← List.take_append_drop i L] at h
      rcases List.mem_append.1 h with h | h
      · exact List.mem_append.2 (.inl (List.mem_append.2 (.inl h)))
      · exact List.mem_append.2 (.inr h)
    · exact List.mem_append.2 (.inl (List.mem_append.2 (.inr h)))

theorem Srt.ins {L : List Rw} (h : Srt L) (t : List UInt8) (N : List Rw) (hN : Srt N) (h1 : ∀ x ∈ N, t = x.p ∨ cmpL t x.p < 0) (h2 : ∀ x ∈ N, ∀ r ∈ L, ¬ cmpL r.p t < 0 → cmpL x.p r.p < 0) : Srt (L.take (ix L t) ++ N ++ L.drop (ix L t)) := by
  unfold Srt
  rw [List.append_assoc]
  refine List.pairwise_append.2 ⟨h.sublist (List.take_sublist _ _), List.pairwise_append.2 ⟨hN, h.sublist (List.drop_sublist _ _), ?_⟩, ?_⟩
  · intro a ha b hb
    exact h2 a ha b (List.mem_of_mem_drop hb) (drop_ge h (Nat.le_refl _) hb)
  · intro a ha b hb
    have ht := take_lt h ha
    rcases List.mem_append.1 hb with hb | hb
    · rcases h1 b hb with e | e
      · rw [← e]; exact ht
      · exact cmpL_lt_trans _ _ _ ht e
    · have hp := List.pairwise_append.1 (by rw [List.take_append_drop]; exact h : (L.take (ix L t) ++ L.drop (ix L t)).Pairwise fun a b => cmpL a.p b.p < 0)
      exact hp.2.2 a ha b hb

theorem wpR_nil {L : List Rw} {nx : Int} {s : List UInt8} (h : mdL L s = []) : wpR L nx s = L := by unfold wpR; rw [h]; rfl

theorem wpR_mem {L : List Rw} {nx : Int} {s : List UInt8} {q : Rw} : q ∈ wpR L nx s ↔ q ∈ L ∨ q ∈ mkAll nx (mdL L s) := by
  unfold wpR
  cases h : (mdL L s).getLast? with
  | none =>
    rw [List.getLast?_eq_none_iff.1 h]
    simp [mkAll]
  | some t => exact mem_ins

theorem wpR_length {L : List Rw} {nx : Int} {s : List UInt8} : (wpR L nx s).length = L.length + (mdL L s).length := by
  unfold wpR
  cases h : (mdL L s).getLast? with
  | none =>
    rw [List.getLast?_eq_none_iff.1 h]
    simp
  | some t =>
    have := ix_le L t
    rw [List.length_append, List.length_append, List.length_take, List.length_drop, mkAll_length]
    omega

theorem Cp.upc {s : List UInt8} (h : Cp s) : Cp (upL s) ∨ upL s = [] := h.up.symm

theorem md_chain {L : List Rw} {s x : List UInt8} (h : x ∈ mdL L s) : x ∈ chain (upL s) := by
  rw [md_st L s]; exact List.mem_append.2 (.inl h)

theorem md_cp {L : List Rw} {s x : List UInt8} (hs : Cp s) (h : x ∈ mdL L s) : Cp x := by
  have hx := md_chain h
  rcases hs.up with e | e
  · rw [e, chain_nil] at hx; cases hx
  · exact e.chain hx

theorem md_pair (L : List Rw) {s : List UInt8} (hs : Cp s) : (mdL L s).Pairwise fun a b => b ∈ chain a ∧ cmpL b a < 0 :=
  (chain_pair (upL s) hs.upc).sublist (List.takeWhile_sublist _)

theorem wpR_srt {L : List Rw} {nx : Int} {s : List UInt8} (h : Sd L nx) (hs : Cp s) : Srt (wpR L nx s) := by
  unfold wpR
  cases hg : (mdL L s).getLast? with
  | none => exact h.srt
  | some t =>
    have ht : t ∈ mdL L s := List.mem_of_getLast? hg
    have hp := md_pair L hs
    have hlast : ∀ x ∈ mdL L s, t = x ∨ (t ∈ chain x ∧ cmpL t x < 0) := by
      intro x hx
      obtain ⟨A, hA⟩ : ∃ A, mdL L s = A ++ [t] := List.getLast?_eq_some_iff.1 hg
      rw [hA] at hx hp
      rcases List.mem_append.1 hx with hx | hx
      · exact .inr ((List.pairwise_append.1 hp).2.2 x hx t (by simp))
      · exact .inl (List.mem_singleton.1 hx).symm
    have hm : ∀ q ∈ mkAll nx (mdL L s), q.p ∈ mdL L s := by
      intro q hq
      obtain ⟨i, x, hx, rfl⟩ := (mkAll_get _ _ _).1 hq
      exact List.mem_reverse.1 (List.mem_of_getElem? hx)
    refine h.srt.ins t _ ?_ ?_ ?_
    · have : ((mkAll nx (mdL L s)).map Rw.p).Pairwise fun a b => cmpL a b < 0 := by
        rw [mkAll_map]
        exact List.pairwise_reverse.2 (hp.imp fun q => q.2)
      exact List.pairwise_map.1 this
    · intro q hq
      rcases hlast _ (hm q hq) with e | e
      · exact .inl e
      · exact .inr e.2
    · intro q hq r hr hge
      have hx := hm q hq
      by_cases hlt : cmpL q.p r.p < 0
      · exact hlt
      · exfalso
        have hne : q.p ≠ r.p := fun e => not_there h.srt (md_fd hx) r hr e.symm
        have h2 := cmpL_gt hlt hne
        have hnt : r.p ≠ t := not_there h.srt (md_fd ht) r hr
        have h1 := cmpL_gt hge hnt
        rcases hlast _ hx with e | e
        · rw [← e] at h2
          exact hge h2
        · have := chain_mid (h.cp r hr) (md_cp hs hx) e.1 h1 h2
          obtain ⟨z, hz, hzp⟩ := h.above hr this
          exact not_there h.srt (md_fd ht) z hz hzp

/-- the directories that are made make a tree that has the directory of the path -/
theorem Sd.wp {L : List Rw} {nx : Int} {s : List UInt8} (h : Sd L nx) (hs : Cp s) (hl : s.length ≤ 1000) (hc : cls L s = false) :
    Sd (wpR L nx s) (nx + ((mdL L s).length : Int)) ∧ (upL s = [] ∨ ∃ q ∈ wpR L nx s, q.p = upL s ∧ q.kind = 4) := by
  have hnn := h.nn
  have hdir : ∀ x, x ∈ mdL L s ∨ (stL L s).head? = some x → ∃ q ∈ wpR L nx s, q.p = x ∧ q.kind = 4 := by
    rintro x (hx | hx)
    · obtain ⟨i, hi⟩ := List.mem_iff_getElem?.1 (List.mem_reverse.2 hx)
      exact ⟨_, wpR_mem.2 (.inr ((mkAll_get _ _ _).2 ⟨i, x, hi, rfl⟩)), rfl, rfl⟩
    · cases e : stL L s with
      | nil => rw [e] at hx; cases hx
      | cons y r =>
        rw [e] at hx
        obtain rfl : y = x := by simpa using hx
        have hm := atR_mem (st_fd e)
        have hk : (atR L y).kind = 4 := by
          unfold cls at hc
          rw [e] at hc
          simpa using hc
        exact ⟨_, wpR_mem.2 (.inl hm.1), hm.2, hk⟩
  refine ⟨⟨wpR_srt h hs, ?_, ?_, ?_, ?_, ?_, by omega⟩, ?_⟩
  · intro r hr
    rcases wpR_mem.1 hr with hr | hr
    · exact h.cp r hr
    · obtain ⟨i, x, hx, rfl⟩ := (mkAll_get _ _ _).1 hr
      exact md_cp hs (List.mem_reverse.1 (List.mem_of_getElem? hx))
  · intro r hr
    rcases wpR_mem.1 hr with hr | hr
    · rcases h.up r hr with e | ⟨q, hq, e⟩
      · exact .inl e
      · exact .inr ⟨q, wpR_mem.2 (.inl hq), e⟩
    · obtain ⟨i, x, hx, rfl⟩ := (mkAll_get _ _ _).1 hr
      have hxm : x ∈ mdL L s := List.mem_reverse.1 (List.mem_of_getElem? hx)
      rcases chain_up _ _ _ (md_st L s) x hxm with e | e | e
      · exact .inl e
      · exact .inr (hdir _ (.inl e))
      · exact .inr (hdir _ (.inr e))
  · intro r hr
    rcases wpR_mem.1 hr with hr | hr
    · have := h.id r hr; omega
    · obtain ⟨i, x, hx, rfl⟩ := (mkAll_get _ _ _).1 hr
      have hi := (List.getElem?_eq_some_iff.1 hx).1
      rw [List.length_reverse] at hi
      show 0 ≤ nx + (i : Int) ∧ nx + (i : Int) < _
      omega
  · intro r hr q hq e
    rcases wpR_mem.1 hr with hr | hr
    · rcases wpR_mem.1 hq with hq | hq
      · exact h.one r hr q hq e
      · obtain ⟨i, x, hx, rfl⟩ := (mkAll_get _ _ _).1 hq
        have := h.id r hr
        have e2 : r.id = nx + (i : Int) := e
        omega
    · obtain ⟨i, x, hx, rfl⟩ := (mkAll_get _ _ _).1 hr
      rcases wpR_mem.1 hq with hq | hq
      · have := h.id q hq
        have e2 : nx + (i : Int) = q.id := e
        omega
      · obtain ⟨j, y, hy, rfl⟩ := (mkAll_get _ _ _).1 hq
        have e2 : nx + (i : Int) = nx + (j : Int) := e
        obtain rfl : i = j := by omega
        rw [hx] at hy
        obtain rfl := Option.some.inj hy
        exact .inl rfl
  · intro r hr
    rcases wpR_mem.1 hr with hr | hr
    · exact h.ok r hr
    · obtain ⟨i, x, hx, rfl⟩ := (mkAll_get _ _ _).1 hr
      have hxm : x ∈ mdL L s := List.mem_reverse.1 (List.mem_of_getElem? hx)
      have := (chain_le _ x (md_chain hxm)).1
      have := up_len hs.ne
      exact ⟨by show x.length ≤ 1000; omega, by show (0 : Int) ≤ 0; omega, by show (0 : Int) ≤ 1048576; omega⟩
  · rcases chain_top (upL s) with e | e
    · exact .inl e
    · right
      rw [md_st L s] at e
      cases hM : mdL L s with
      | nil => rw [hM] at e; exact hdir _ (.inr (by simpa using e))
      | cons a A => rw [hM] at e; exact hdir _ (.inl (by rw [hM]; simp at e; rw [e]; simp))

/-- a row that is laid in a tree -/
theorem Sd.put {L : List Rw} {nx ny : Int} (h : Sd L nx) (r : Rw) (hny : nx ≤ ny) (hs : Cp r.p) (hup : upL r.p = [] ∨ ∃ q ∈ L, q.p = upL r.p ∧ q.kind = 4) (hid : 0 ≤ r.id ∧ r.id < ny) (hok : r.p.length ≤ 1000 ∧ 0 ≤ r.size ∧ r.size ≤ 1048576)
    (hdir : ∀ q ∈ L, q.p = r.p → q.kind = 4 → r.kind = 4) (hone : ∀ q ∈ L, q.p ≠ r.p → q.id = r.id → r.kind = 1 ∧ q.kind = 1 ∧ r.size = q.size) : Sd (putL L r) ny := by
  have hnn := h.nn
  refine ⟨h.srt.put r, ?_, ?_, ?_, ?_, ?_, by omega⟩
  · intro q hq
    rcases (mem_put h.srt r q).1 hq with rfl | ⟨hq, _⟩
    · exact hs
    · exact h.cp q hq
  · have key : ∀ x, (∃ q ∈ L, q.p = x ∧ q.kind = 4) → ∃ q ∈ putL L r, q.p = x ∧ q.kind = 4 := by
      rintro x ⟨q, hq, e, k⟩
      by_cases c : q.p = r.p
      · exact ⟨r, (mem_put h.srt r r).2 (.inl rfl), by rw [← e, c], hdir q hq c k⟩
      · exact ⟨q, (mem_put h.srt r q).2 (.inr ⟨hq, c⟩), e, k⟩
    intro q hq
    rcases (mem_put h.srt r q).1 hq with rfl | ⟨hq, _⟩
    · rcases hup with e | e
      · exact .inl e
      · exact .inr (key _ e)
    · rcases h.up q hq with e | e
      · exact .inl e
      · exact .inr (key _ e)
  · intro q hq
    rcases (mem_put h.srt r q).1 hq with rfl | ⟨hq, _⟩
    · exact hid
    · have := h.id q hq; omega
  · intro a ha b hb e
    rcases (mem_put h.srt r a).1 ha with e1 | ⟨ha1, hna⟩
    · rcases (mem_put h.srt r b).1 hb with e2 | ⟨hb1, hnb⟩
      · exact .inl (by rw [e1, e2])
      · rw [e1] at e ⊢
        exact .inr (hone b hb1 hnb e.symm)
    · rcases (mem_put h.srt r b).1 hb with e2 | ⟨hb1, hnb⟩
      · rw [e2] at e ⊢
        have := hone a ha1 hna e
        exact .inr ⟨this.2.1, this.1, this.2.2.symm⟩
      · exact h.one a ha1 b hb1 e
  · intro q hq
    rcases (mem_put h.srt r q).1 hq with rfl | ⟨hq, _⟩
    · exact hok
    · exact h.ok q hq

theorem put_length (L : List Rw) (r : Rw) : (putL L r).length ≤ L.length + 1 := by
  unfold putL
  simp only [List.length_append, List.length_take, List.length_drop, List.length_cons, List.length_nil]
  omega

end Go.Proofs.YtojnniacmmcddaaDoor
