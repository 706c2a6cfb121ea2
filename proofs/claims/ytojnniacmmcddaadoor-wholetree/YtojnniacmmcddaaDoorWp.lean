/-
  Plain: each directory's list, one below the other, is all there is.
-/
import Derived.Test.YtojnniacmmcddaaDoorLq
import Derived.Test.YtojnniacmmcddaaDoorP4
namespace Go.Proofs.YtojnniacmmcddaaDoor
open Go.RowKit
open Go.Lib hiding intOf
set_option linter.unusedVariables false
set_option linter.unusedSimpArgs false

/-- what lies in a directory itself -/
def kids (L : List Rw) (d : List UInt8) : List Rw := (L.filter (sbf d)).filter (lsf d)

/-- a directory of a tree -/
def Dr (L : List Rw) (d : List UInt8) : Prop := d = [] ∨ ∃ r ∈ L, r.p = d ∧ r.kind = 4

theorem Dr.parts {L : List Rw} {nx : Int} {d : List UInt8} (h : Sd L nx) (hd : Dr L d) : ∃ ds, (∀ p ∈ ds, Good p) ∧ d = jn ds := by
  rcases hd with rfl | ⟨r, hr, rfl, _⟩
  · exact ⟨[], (fun _ h => nomatch h), rfl⟩
  · obtain ⟨ps, _, h2, h3⟩ := h.cp r hr
    exact ⟨ps, h2, h3⟩

theorem kids_mem {L : List Rw} {d : List UInt8} {c : Rw} : c ∈ kids L d ↔ c ∈ L ∧ (und d c.p = true ∧ c.p ≠ d) ∧ upL c.p = d := by
  unfold kids sbf lsf
  simp only [List.mem_filter, Bool.and_eq_true, Bool.not_eq_true', decide_eq_false_iff_not, decide_eq_true_eq, ne_eq]
  constructor
  · rintro ⟨⟨h1, h2⟩, h3⟩; exact ⟨h1, h2, h3⟩
  · rintro ⟨h1, h2, h3⟩; exact ⟨⟨h1, h2⟩, h3⟩

theorem countP_one {α : Type} {f : α → Bool} : ∀ {l : List α} {c : α}, c ∈ l → f c = true → (∀ x ∈ l, f x = true → x = c) → l.Nodup → l.countP f = 1
  | [], c, hc, _, _, _ => nomatch hc
  | a :: l, c, hc, hf, hu, hn => by
    rw [List.nodup_cons] at hn
    by_cases ha : f a = true
    · have e := hu a (by simp) ha
      subst e
      rw [List.countP_cons_of_pos ha]
      have : l.countP f = 0 := List.countP_eq_zero.2 fun x hx hfx => hn.1 (by rw [← hu x (by simp [hx]) hfx]; exact hx)
      omega
    · rw [List.countP_cons_of_neg ha]
      have hc' : c ∈ l := by
        rcases List.mem_cons.1 hc with e | e
        · subst e; exact absurd hf ha
        · exact e
      exact countP_one hc' hf (fun x hx => hu x (by simp [hx])) hn.2

theorem Srt.nodup {L : List Rw} (h : Srt L) : L.Nodup := by
  refine List.Pairwise.imp ?_ h
  intro a b hab e
  subst e
  have := cmpL_self a.p
  omega

theorem kids_nodup {L : List Rw} {d : List UInt8} (h : Srt L) : (kids L d).Nodup := (h.nodup.filter _).filter _

/-- how a child counts for a row: a directory for all in it, another for itself -/
def cov (r : List UInt8) (c : Rw) : Bool := if c.kind = 4 then und c.p r else decide (c.p = r)

theorem und_self (m : List (List UInt8)) (hm : ∀ p ∈ m, Good p) : und (jn m) (jn m) = true := by
  rw [und_jn m m hm hm]; exact decide_eq_true List.prefix_rfl

theorem cov_und {L : List Rw} {nx : Int} (h : Sd L nx) {c r : Rw} (hc : c ∈ L) (hv : cov r.p c = true) : und c.p r.p = true := by
  unfold cov at hv
  split at hv
  · exact hv
  · have e : c.p = r.p := of_decide_eq_true hv
    obtain ⟨ps, _, h2, h3⟩ := h.cp c hc
    rw [← e, h3]
    exact und_self ps h2

theorem cov_count {L : List Rw} {nx : Int} (h : Sd L nx) {d : List UInt8} (hd : Dr L d) {r : Rw} (hr : r ∈ L) :
    (kids L d).countP (cov r.p) = if und d r.p = true ∧ r.p ≠ d then 1 else 0 := by
  obtain ⟨ds, hds, rfl⟩ := hd.parts h
  obtain ⟨ps, hps0, hps, hrp⟩ := h.cp r hr
  -- what a child that covers r is
  have key : ∀ c ∈ kids L (jn ds), cov r.p c = true → ds <+: ps ∧ ds ≠ ps ∧ c.p = jn (ps.take (ds.length + 1)) := by
    intro c hc hv
    obtain ⟨hcL, ⟨hu, hne⟩, hup⟩ := kids_mem.1 hc
    have h1 := cov_und h hcL hv
    obtain ⟨cs, hcs0, hcs, hcp⟩ := h.cp c hcL
    rw [hcp, hrp, und_jn cs ps hcs hps] at h1
    have h1' : cs <+: ps := of_decide_eq_true h1
    rw [hcp, up_jn cs hcs hcs0] at hup
    have e := jn_inj cs.dropLast ds (fun p hp => hcs p (List.dropLast_subset cs hp)) hds hup
    have hlen : cs.length = ds.length + 1 := by
      have := congrArg List.length e
      rw [List.length_dropLast] at this
      have : cs.length ≠ 0 := fun e => hcs0 (List.length_eq_zero_iff.1 e)
      omega
    have hpre : ds <+: ps := by rw [← e]; exact (List.dropLast_prefix cs).trans h1'
    refine ⟨hpre, fun e2 => ?_, ?_⟩
    · have := h1'.length_le
      rw [← e2] at this
      omega
    · rw [hcp]
      congr 1
      rw [← hlen]
      exact List.prefix_iff_eq_take.1 h1'
  split
  · rename_i hy
    obtain ⟨hy1, hy2⟩ := hy
    rw [hrp, und_jn ds ps hds hps] at hy1
    have hpre : ds <+: ps := of_decide_eq_true hy1
    have hne : ds ≠ ps := fun e => hy2 (by rw [hrp, e])
    have hlt : ds.length < ps.length := by
      have h1 := hpre.length_le
      rcases Nat.lt_or_ge ds.length ps.length with h2 | h2
      · exact h2
      · exact absurd (hpre.eq_of_length (by omega)) hne
    -- the child
    have ht : ps.take (ds.length + 1) <+: ps := List.take_prefix _ _
    have htn : ps.take (ds.length + 1) ≠ [] := fun e => by
      have h9 := congrArg List.length e
      rw [List.length_take, List.length_nil] at h9
      omega
    have htl : (ps.take (ds.length + 1)).length = ds.length + 1 := by rw [List.length_take]; omega
    have htg : ∀ p ∈ ps.take (ds.length + 1), Good p := fun p hp => hps p (ht.subset hp)
    obtain ⟨q, hq, hqp⟩ := h.above hr (t := jn (ps.take (ds.length + 1))) (by rw [hrp]; exact (chain_jn ps hps _).2 ⟨_, htn, ht, rfl⟩)
    have hdt : (ps.take (ds.length + 1)).dropLast = ds := by
      rw [List.dropLast_eq_take, htl, List.take_take]
      simp
      exact (List.prefix_iff_eq_take.1 hpre).symm
    have hqk : q ∈ kids L (jn ds) := kids_mem.2 ⟨hq, ⟨by
      rw [hqp, und_jn ds _ hds htg]
      refine decide_eq_true ?_
      have h8 := List.dropLast_prefix (ps.take (ds.length + 1))
      rw [hdt] at h8
      exact h8, fun e => by
        rw [hqp] at e
        have := congrArg List.length (jn_inj _ ds htg hds e)
        omega⟩, by rw [hqp, up_jn _ htg htn, hdt]⟩
    have hcv : cov r.p q = true := by
      unfold cov
      by_cases hk : q.kind = 4
      · rw [if_pos hk, hqp, hrp, und_jn _ ps htg hps]
        exact decide_eq_true ht
      · rw [if_neg hk]
        refine decide_eq_true ?_
        rcases Nat.lt_or_ge (ds.length + 1) ps.length with h2 | h2
        · -- one more below: then q is a directory
          exfalso
          have ht2 : ps.take (ds.length + 2) <+: ps := List.take_prefix _ _
          have htl2 : (ps.take (ds.length + 2)).length = ds.length + 2 := by rw [List.length_take]; omega
          have htn2 : ps.take (ds.length + 2) ≠ [] := fun e => by
            have := congrArg List.length e
            rw [htl2] at this
            simp at this
          have htg2 : ∀ p ∈ ps.take (ds.length + 2), Good p := fun p hp => hps p (ht2.subset hp)
          obtain ⟨q2, hq2, hqp2⟩ := h.above hr (t := jn (ps.take (ds.length + 2))) (by rw [hrp]; exact (chain_jn ps hps _).2 ⟨_, htn2, ht2, rfl⟩)
          have hup : upL q2.p = q.p := by
            rw [hqp2, up_jn _ htg2 htn2, hqp, List.dropLast_eq_take, htl2, List.take_take]
            congr 2
            omega
          rcases h.up q2 hq2 with e | ⟨q3, hq3, e3, k3⟩
          · rw [hup] at e
            exact (h.cp q hq).ne e
          · have := h.srt.uniq hq3 hq (by rw [e3, hup])
            rw [this] at k3
            exact hk k3
        · rw [hqp, hrp, List.take_of_length_le h2]
    refine countP_one hqk hcv (fun x hx hvx => ?_) (kids_nodup h.srt)
    exact h.srt.uniq (kids_mem.1 hx).1 hq (by rw [(key x hx hvx).2.2, hqp])
  · rename_i hy
    refine List.countP_eq_zero.2 fun c hc hv => hy ?_
    obtain ⟨h1, h2, h3⟩ := key c hc hv
    refine ⟨?_, fun e => ?_⟩
    · rw [hrp, und_jn ds ps hds hps]
      exact decide_eq_true h1
    · rw [hrp] at e
      exact h2 (jn_inj ps ds hps hds e).symm

/-- what is told, and what is still to be listed -/
structure Dfs (L : List Rw) (all todo : List (List UInt8)) : Prop where
  one : ∀ r ∈ L, all.count r.p + todo.countP (fun d => und d r.p) = 1
  mem : ∀ s ∈ all, ∃ r ∈ L, r.p = s
  dir : ∀ d ∈ todo, Dr L d
  root : todo.count [] ≤ 1

theorem und_nil (s : List UInt8) : und [] s = true := by
  unfold und
  simp [Lib.hasPrefix]

theorem Dfs.start (L : List Rw) : Dfs L [] [[]] := by
  refine ⟨fun r _ => ?_, (fun _ h => nomatch h), fun d hd => ?_, by simp⟩
  · simp [und_nil]
  · rw [List.mem_singleton.1 hd]; exact .inl rfl

def nds (l : List Rw) : List (List UInt8) := (l.filter fun c => !decide (c.kind = 4)).map Rw.p
def dds (l : List Rw) : List (List UInt8) := (l.filter fun c => decide (c.kind = 4)).map Rw.p

theorem cov_split (r : List UInt8) : ∀ l : List Rw, (nds l).count r + (dds l).countP (fun d => und d r) = l.countP (cov r)
  | [] => rfl
  | c :: l => by
    have ih := cov_split r l
    unfold nds dds at ih ⊢
    by_cases hk : c.kind = 4
    · have e1 : decide (c.kind = 4) = true := by simpa using hk
      rw [List.filter_cons_of_neg (by simp [e1]), List.filter_cons_of_pos (by simp [e1]), List.map_cons, List.countP_cons, List.countP_cons]
      have : cov r c = und c.p r := by unfold cov; rw [if_pos hk]
      rw [this]
      omega
    · have e1 : decide (c.kind = 4) = false := by simpa using hk
      rw [List.filter_cons_of_pos (by simp [e1]), List.filter_cons_of_neg (by simp [e1]), List.map_cons, List.count_cons, List.countP_cons]
      have : cov r c = (c.p == r) := by unfold cov; rw [if_neg hk]; exact Bool.eq_iff_iff.2 (by simp)
      rw [this]
      omega

theorem Dfs.step {L : List Rw} {nx : Int} {all todo : List (List UInt8)} {d : List UInt8} (hs : Sd L nx) (h : Dfs L all (todo ++ [d])) :
    Dfs L ((all ++ if d = [] then [] else [d]) ++ nds (kids L d).reverse) (todo ++ dds (kids L d).reverse) := by
  have hd : Dr L d := h.dir d (by simp)
  have hkp : ∀ c ∈ kids L d, c.p ≠ [] := fun c hc => (hs.cp c (kids_mem.1 hc).1).ne
  refine ⟨fun r hr => ?_, fun s hs' => ?_, fun x hx => ?_, ?_⟩
  · have h1 := h.one r hr
    rw [List.countP_append, List.countP_singleton] at h1
    have h2 := cov_count hs hd hr
    have h3 := cov_split r.p (kids L d).reverse
    rw [List.countP_reverse, h2] at h3
    rw [List.count_append, List.count_append, List.countP_append]
    have hrn := (hs.cp r hr).ne
    have h4 : (if d = [] then ([] : List (List UInt8)) else [d]).count r.p = if d = r.p then 1 else 0 := by
      by_cases e : d = []
      · rw [if_pos e, if_neg (fun e2 => hrn (by rw [← e2, e]))]; rfl
      · rw [if_neg e]
        by_cases e2 : d = r.p
        · rw [if_pos e2, e2]; simp
        · rw [if_neg e2]; exact List.count_eq_zero.2 (fun hm => e2 (List.mem_singleton.1 hm).symm)
    rw [h4]
    by_cases e2 : d = r.p
    · rw [if_pos e2]
      have hu : und d r.p = true := by
        obtain ⟨ps, _, k2, k3⟩ := hs.cp r hr
        rw [e2, k3]; exact und_self ps k2
      rw [if_pos hu] at h1
      rw [if_neg (fun hh => hh.2 e2.symm)] at h3
      omega
    · rw [if_neg e2]
      by_cases hu : und d r.p = true
      · rw [if_pos hu] at h1
        rw [if_pos ⟨hu, fun e => e2 e.symm⟩] at h3
        omega
      · rw [if_neg hu] at h1
        rw [if_neg (fun hh => hu hh.1)] at h3
        omega
  · rcases List.mem_append.1 hs' with hs' | hs'
    · rcases List.mem_append.1 hs' with hs' | hs'
      · exact h.mem s hs'
      · by_cases e : d = []
        · rw [if_pos e] at hs'; exact nomatch hs'
        · rw [if_neg e] at hs'
          rw [List.mem_singleton.1 hs']
          rcases hd with e1 | ⟨r, hr, e1, _⟩
          · exact absurd e1 e
          · exact ⟨r, hr, e1⟩
    · obtain ⟨c, hc, rfl⟩ := List.mem_map.1 hs'
      exact ⟨c, (kids_mem.1 (List.mem_reverse.1 (List.mem_filter.1 hc).1)).1, rfl⟩
  · rcases List.mem_append.1 hx with hx | hx
    · exact h.dir x (by simp [hx])
    · obtain ⟨c, hc, rfl⟩ := List.mem_map.1 hx
      obtain ⟨hc1, hc2⟩ := List.mem_filter.1 hc
      exact .inr ⟨c, (kids_mem.1 (List.mem_reverse.1 hc1)).1, rfl, of_decide_eq_true hc2⟩
  · rw [List.count_append]
    have h1 := h.root
    rw [List.count_append] at h1
    have : (dds (kids L d).reverse).count [] = 0 := List.count_eq_zero.2 fun hm => by
      obtain ⟨c, hc, e⟩ := List.mem_map.1 hm
      exact hkp c (List.mem_reverse.1 (List.mem_filter.1 hc).1) e
    omega

/-- how many paths, the root's with them, are still to be told -/
def mu (L : List Rw) (todo : List (List UInt8)) : Nat := ([] :: L.map Rw.p).countP fun a => todo.any fun d => und d a

theorem countP_lt {α : Type} {f g : α → Bool} : ∀ {l : List α} {c : α}, (∀ x ∈ l, f x = true → g x = true) → c ∈ l → f c = false → g c = true → l.countP f < l.countP g
  | [], c, _, hc, _, _ => nomatch hc
  | a :: l, c, hi, hc, h1, h2 => by
    have hle : l.countP f ≤ l.countP g := List.countP_mono_left fun x hx => hi x (by simp [hx])
    rw [List.countP_cons, List.countP_cons]
    rcases List.mem_cons.1 hc with e | hc
    · subst e
      rw [h1, h2]
      simp
      omega
    · have := countP_lt (fun x hx => hi x (by simp [hx])) hc h1 h2
      by_cases ha : f a = true
      · rw [if_pos ha, if_pos (hi a (by simp) ha)]; omega
      · rw [if_neg ha]; split <;> omega

theorem mu_lt {L : List Rw} {nx : Int} {all todo : List (List UInt8)} {d : List UInt8} (hs : Sd L nx) (h : Dfs L all (todo ++ [d])) : mu L (todo ++ dds (kids L d).reverse) < mu L (todo ++ [d]) := by
  have hd : Dr L d := h.dir d (by simp)
  have hn := h.step hs
  refine countP_lt (c := d) (fun x hx hf => ?_) ?_ ?_ ?_
  · rw [List.any_append] at hf ⊢
    rcases Bool.or_eq_true_iff.1 hf with hf | hf
    · rw [hf]; rfl
    · obtain ⟨t, ht, hu⟩ := List.any_eq_true.1 hf
      obtain ⟨c, hc, rfl⟩ := List.mem_map.1 ht
      have hck := List.mem_reverse.1 (List.mem_filter.1 hc).1
      obtain ⟨hcL, ⟨hud, _⟩, _⟩ := kids_mem.1 hck
      have : und d x = true := by
        obtain ⟨ds, hds, rfl⟩ := hd.parts hs
        obtain ⟨cs, _, hcs, hcp⟩ := hs.cp c hcL
        rcases List.mem_cons.1 hx with rfl | hx
        · -- und c [] : c = []
          exfalso
          have hcn := (hs.cp c hcL).ne
          unfold und at hu
          cases hcp' : c.p with
          | nil => exact hcn hcp'
          | cons a b => rw [hcp'] at hu; simp [Lib.hasPrefix] at hu
        · obtain ⟨r, hr, rfl⟩ := List.mem_map.1 hx
          obtain ⟨ps, _, hps, hrp⟩ := hs.cp r hr
          rw [hcp, und_jn ds cs hds hcs] at hud
          rw [hcp, hrp, und_jn cs ps hcs hps] at hu
          rw [hrp, und_jn ds ps hds hps]
          exact decide_eq_true ((of_decide_eq_true hud : ds <+: cs).trans (of_decide_eq_true hu : cs <+: ps))
      simp [this]
  · rcases hd with rfl | ⟨r, hr, e, _⟩
    · simp
    · exact List.mem_cons_of_mem _ (List.mem_map.2 ⟨r, hr, e⟩)
  · rcases hd with rfl | ⟨r, hr, e, _⟩
    · -- the root
      rw [← Bool.not_eq_true]
      intro hf
      obtain ⟨t, ht, hu⟩ := List.any_eq_true.1 hf
      have ht0 : t = [] := by
        unfold und at hu
        cases t with
        | nil => rfl
        | cons a b => simp [Lib.hasPrefix] at hu
      subst ht0
      rcases List.mem_append.1 ht with h1 | h1
      · have h2 := h.root
        rw [List.count_append] at h2
        have h3 := List.count_pos_iff.2 h1
        simp at h2
        omega
      · obtain ⟨c, hc, e⟩ := List.mem_map.1 h1
        exact (hs.cp c (kids_mem.1 (List.mem_reverse.1 (List.mem_filter.1 hc).1)).1).ne e
    · have h1 := hn.one r hr
      rw [← Bool.not_eq_true]
      intro hf
      have hdn : d ≠ [] := by rw [← e]; exact (hs.cp r hr).ne
      have h2 : 0 < ((all ++ if d = [] then [] else [d]) ++ nds (kids L d).reverse).count r.p := List.count_pos_iff.2 (by rw [if_neg hdn, e]; simp)
      have h3 : 0 < (todo ++ dds (kids L d).reverse).countP (fun x => und x r.p) := by
        obtain ⟨t, ht, hu⟩ := List.any_eq_true.1 hf
        exact List.countP_pos_iff.2 ⟨t, ht, by rw [e]; exact hu⟩
      omega
  · have : und d d = true := by
      obtain ⟨ds, hds, rfl⟩ := hd.parts hs
      exact und_self ds hds
    simp [this]

theorem Dfs.perm {L : List Rw} {nx : Int} {all : List (List UInt8)} (hs : Sd L nx) (h : Dfs L all []) : all.Perm (L.map Rw.p) := by
  have hL : ∀ r ∈ L, (L.map Rw.p).count r.p = 1 := fun r hr => by
    rw [List.count_eq_countP, List.countP_map]
    refine countP_one hr (by simp) (fun x hx hf => hs.srt.uniq hx hr (by simpa using hf)) hs.srt.nodup
  refine List.perm_iff_count.2 fun a => ?_
  by_cases ha : ∃ r ∈ L, r.p = a
  · obtain ⟨r, hr, rfl⟩ := ha
    rw [hL r hr]
    have := h.one r hr
    simpa using this
  · rw [List.count_eq_zero.2 (fun hm => ha (h.mem a hm)), List.count_eq_zero.2 (fun hm => ha (by obtain ⟨r, hr, e⟩ := List.mem_map.1 hm; exact ⟨r, hr, e⟩))]

theorem Dfs.len {L : List Rw} {nx : Int} {all : List (List UInt8)} (hs : Sd L nx) (h : Dfs L all []) : all.length = L.length := by
  rw [(h.perm hs).length_eq, List.length_map]

theorem Dfs.nodup {L : List Rw} {nx : Int} {all : List (List UInt8)} (hs : Sd L nx) (h : Dfs L all []) : all.Nodup := by
  have : (L.map Rw.p).Nodup := by
    refine List.Pairwise.map _ (fun a b hab => ?_) (List.pairwise_iff_forall_sublist.2 (fun {a b} hab => ?_) : L.Pairwise (fun a b => a.p ≠ b.p))
    · exact hab
    · have := List.pairwise_iff_forall_sublist.1 hs.srt hab
      intro e
      have h2 := cmpL_self b.p
      rw [e] at this
      omega
  exact (h.perm hs).symm.nodup this

end Go.Proofs.YtojnniacmmcddaaDoor
