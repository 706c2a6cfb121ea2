/-
  Plain: Add and Link of the document's tree go with those of rows.
-/
import Derived.Test.YtpgiibpalmhhlaaGreatDoorDa
namespace Go.Proofs.YtpgiibpalmhhlaaGreatDoor
open Go.RowKit
open Go.Lib hiding intOf
set_option linter.unusedVariables false
set_option linter.unusedSimpArgs false

theorem upR_chain {s : List UInt8} (hs : Cp s) : upR (parts s) 1 = (chain (upL s)).reverse := by
  obtain ⟨ps, h1, h2, rfl⟩ := hs
  rw [up_jn ps h2 h1, chain_rev _ (fun p hp => h2 p (List.dropLast_subset ps hp)), parts_good_jn ps h1 h2]
  unfold upR
  rw [List.length_dropLast]
  refine List.map_congr_left fun i hi => ?_
  have := (List.mem_range'_1.1 hi)
  rw [List.dropLast_eq_take, List.take_take, Nat.min_eq_left (by omega)]

theorem mkAll_co {more : Int} (nx : Int) (M : List (List UInt8)) : (∀ r ∈ mkAll nx M, ∃ x ∈ mkD nx M.reverse, Mt more r x) ∧ (∀ x ∈ mkD nx M.reverse, ∃ r ∈ mkAll nx M, Mt more r x) := by
  have hd : ∀ x, x ∈ mkD nx M.reverse ↔ ∃ (i : Nat) (u : List UInt8), M.reverse[i]? = some u ∧ x = ⟨u, 4, 0, true, nx + (i : Int)⟩ := by
    intro x
    unfold mkD
    constructor
    · intro hx
      obtain ⟨i, hi⟩ := List.mem_iff_getElem?.1 hx
      rw [List.getElem?_mapIdx] at hi
      obtain ⟨u, h1, h2⟩ := Option.map_eq_some_iff.1 hi
      exact ⟨i, u, h1, h2.symm⟩
    · rintro ⟨i, u, h1, rfl⟩
      refine List.mem_of_getElem? (i := i) ?_
      rw [List.getElem?_mapIdx, h1]; rfl
  constructor
  · intro r hr
    obtain ⟨i, u, h1, rfl⟩ := (mkAll_get nx M r).1 hr
    exact ⟨_, (hd _).2 ⟨i, u, h1, rfl⟩, rfl, rfl, rfl, rfl, fun h => by cases h⟩
  · intro x hx
    obtain ⟨i, u, h1, rfl⟩ := (hd x).1 hx
    exact ⟨_, (mkAll_get nx M _).2 ⟨i, u, h1, rfl⟩, rfl, rfl, rfl, rfl, fun h => by cases h⟩

theorem chain_nodup {s : List UInt8} (hs : Cp s ∨ s = []) : (chain s).Nodup := by
  have := chain_pair s hs
  unfold List.Nodup
  exact this.imp fun {a b} h e => by rw [e] at h; exact cmpL_irrefl _ h.2

/-- what stands above a thing is a directory -/
theorem above_dir {L : List Rw} {nx : Int} (h : Sd L nx) {r : Rw} (hr : r ∈ L) {t : List UInt8} (ht : t ∈ chain r.p) (hne : t ≠ r.p) : (atR L t).kind = 4 := by
  generalize hn : r.p.length = n
  induction n using Nat.strongRecOn generalizing r with
  | _ n ih =>
    have hn0 := (h.cp r hr).ne
    rw [chain_cons hn0] at ht
    rcases List.mem_cons.1 ht with rfl | ht
    · exact absurd rfl hne
    · rcases h.up r hr with e | ⟨q, hq, e, k⟩
      · rw [e, chain_nil] at ht; cases ht
      · by_cases c : t = q.p
        · subst c; rw [atR_of h.srt hq]; exact k
        · have := up_len hn0
          exact ih q.p.length (by rw [e]; omega) hq (by rw [e]; exact ht) c rfl

/-- parents: refused -/
theorem Co.par_no {more : Int} {L : List Rw} {W : List Td} {nx : Int} {s : List UInt8} (h : Co more L W) (hS : Sd L nx) (hs : Cp s) (hc : cls L s = true) :
    (parD (upR (parts s) 1) W nx).2.2 = 130 := by
  rw [upR_chain hs, md_st L s, List.reverse_append]
  cases hst : stL L s with
  | nil => unfold cls at hc; rw [hst] at hc; cases hc
  | cons y r =>
    have hfy := st_fd hst
    have hk : (atR L y).kind ≠ 4 := by unfold cls at hc; rw [hst] at hc; exact of_decide_eq_true hc
    obtain ⟨hm, hp⟩ := atR_mem hfy
    have hcy : y ∈ chain (upL s) := by rw [md_st L s, hst]; exact List.mem_append_right _ (List.mem_cons_self ..)
    have hcr : ∀ u ∈ r, u ∈ chain y := by
      intro u hu
      have hpair := chain_pair (upL s) hs.up.symm
      rw [md_st L s, hst] at hpair
      exact ((List.pairwise_cons.1 (List.pairwise_append.1 hpair).2.1).1 u hu).1
    rw [List.reverse_cons, List.append_assoc, parD_old]
    · rw [List.singleton_append, parD, if_pos ((h.has hS.srt y).trans hfy), if_neg]
      rw [← (h.at hS.srt hfy).2.1]; exact hk
    · intro u hu
      have hu := List.mem_reverse.1 hu
      obtain ⟨q, hq, e⟩ := hS.above hm (t := u) (by rw [hp]; exact hcr u hu)
      have hfu : fd L u = true := by rw [← e]; exact fd_of hS.srt hq
      exact ⟨(h.has hS.srt u).trans hfu, by
        rw [← (h.at hS.srt hfu).2.1]
        exact above_dir hS hm (by rw [hp]; exact hcr u hu) (by rw [hp]; intro e2; have hh := chain_pair (upL s) hs.up.symm; rw [md_st L s, hst] at hh; have := ((List.pairwise_cons.1 (List.pairwise_append.1 hh).2.1).1 u hu).2; rw [e2] at this; exact cmpL_irrefl _ this)⟩

/-- parents: laid -/
theorem Co.par_yes {more : Int} {L : List Rw} {W : List Td} {nx : Int} {s : List UInt8} (h : Co more L W) (hS : Sd L nx) (hs : Cp s) (hl : s.length ≤ 1000) (hc : cls L s = false) :
    (parD (upR (parts s) 1) W nx).2.2 = 0 ∧ (parD (upR (parts s) 1) W nx).2.1 = nx + ((mdL L s).length : Int) ∧ Co more (wpR L nx s) (parD (upR (parts s) 1) W nx).1 := by
  have hfn : ∀ u ∈ (mdL L s).reverse, fdD W u = false := fun u hu => by rw [h.has hS.srt]; exact md_fd (List.mem_reverse.1 hu)
  have hnd : (mdL L s).reverse.Nodup := by
    have h1 := chain_nodup hs.up.symm
    rw [md_st L s] at h1
    unfold List.Nodup; rw [List.pairwise_reverse]; exact (List.nodup_append.1 h1).1.imp fun h => h.symm
  have key : parD (upR (parts s) 1) W nx = (W ++ mkD nx (mdL L s).reverse, nx + ((mdL L s).length : Int), 0) := by
    rw [upR_chain hs, md_st L s, List.reverse_append, parD_old, parD_new _ _ _ hnd hfn, List.length_reverse]
    intro u hu
    have hu := List.mem_reverse.1 hu
    cases hst : stL L s with
    | nil => rw [hst] at hu; cases hu
    | cons y r =>
      rw [hst] at hu
      have hfy := st_fd hst
      obtain ⟨hm, hp⟩ := atR_mem hfy
      have hky : (atR L y).kind = 4 := by
        unfold cls at hc; rw [hst] at hc
        exact Classical.not_not.1 (of_decide_eq_false hc)
      rcases List.mem_cons.1 hu with rfl | hu
      · exact ⟨(h.has hS.srt _).trans hfy, by rw [← (h.at hS.srt hfy).2.1]; exact hky⟩
      · have hh := chain_pair (upL s) hs.up.symm
        rw [md_st L s, hst] at hh
        have hcr := (List.pairwise_cons.1 (List.pairwise_append.1 hh).2.1).1 u hu
        obtain ⟨q, hq, e⟩ := hS.above hm (t := u) (by rw [hp]; exact hcr.1)
        have hfu : fd L u = true := by rw [← e]; exact fd_of hS.srt hq
        exact ⟨(h.has hS.srt u).trans hfu, by
          rw [← (h.at hS.srt hfu).2.1]
          exact above_dir hS hm (by rw [hp]; exact hcr.1) (by rw [hp]; intro e2; have := hcr.2; rw [e2] at this; exact cmpL_irrefl _ this)⟩
  rw [key]
  refine ⟨rfl, rfl, ?_⟩
  obtain ⟨k1, k2⟩ := mkAll_co (more := more) nx (mdL L s)
  refine ⟨fun r hr => ?_, fun x hx => ?_, ?_⟩
  · rcases wpR_mem.1 hr with hr | hr
    · obtain ⟨x, hx, m⟩ := h.lr r hr
      exact ⟨x, List.mem_append_left _ hx, m⟩
    · obtain ⟨x, hx, m⟩ := k1 r hr
      exact ⟨x, List.mem_append_right _ hx, m⟩
  · rcases List.mem_append.1 hx with hx | hx
    · obtain ⟨r, hr, m⟩ := h.rl x hx
      exact ⟨r, wpR_mem.2 (.inl hr), m⟩
    · obtain ⟨r, hr, m⟩ := k2 x hx
      exact ⟨r, wpR_mem.2 (.inr hr), m⟩
  · refine List.pairwise_append.2 ⟨h.nd, ?_, ?_⟩
    · unfold mkD
      have : (List.mapIdx (fun i u => (⟨u, 4, 0, true, nx + (i : Int)⟩ : Td)) (mdL L s).reverse).map Td.p = (mdL L s).reverse := by
        apply List.ext_getElem?
        intro i
        rw [List.getElem?_map, List.getElem?_mapIdx]
        cases (mdL L s).reverse[i]? <;> rfl
      exact nd_map.2 (by rw [this]; exact hnd)
    · intro a ha b hb e
      obtain ⟨r, hr, m⟩ := k2 b hb
      obtain ⟨i, u, h1, rfl⟩ := (mkAll_get nx _ r).1 hr
      have h1 := hfn u (List.mem_of_getElem? h1)
      rw [fdD_iff.2 ⟨a, ha, by rw [e, ← m.1]; rfl⟩] at h1
      cases h1

theorem Co.add {more : Int} {L : List Rw} {W : List Td} {nx : Int} {s : List UInt8} {k m sz : Int} (h : Co more L W) (hS : Sd L nx) (hs : s = [] ∨ Cp s) (hl : s.length ≤ 1000) :
    (addD W nx s k m).2.2 = (addP L nx s k (m + more) sz false).2.2 ∧ (addD W nx s k m).2.1 = (addP L nx s k (m + more) sz false).2.1 ∧ Co more (addP L nx s k (m + more) sz false).1 (addD W nx s k m).1 := by
  unfold addD addP
  by_cases e0 : s = []
  · rw [if_pos e0, if_pos e0]; exact ⟨rfl, rfl, h⟩
  · have hc : Cp s := hs.resolve_left e0
    rw [if_neg e0, if_neg e0, h.has hS.srt]
    by_cases hf : fd L s = true
    · have ht := hS.there hf
      obtain ⟨p1, p2, p3⟩ := h.par_yes hS hc hl ht.2
      have hat := h.at hS.srt hf
      rw [wpR_nil ht.1] at p3
      rw [ht.1] at p2
      simp only [List.length_nil, Int.natCast_zero, Int.add_zero] at p2
      rw [hf, if_pos rfl, ← hat.2.1]
      by_cases c1 : decide ((atR L s).kind = 4) ≠ decide (k = 4)
      · rw [if_pos ⟨rfl, c1⟩, if_pos c1]; exact ⟨rfl, rfl, h⟩
      · rw [if_neg (fun q => c1 q.2), if_neg c1, p1, if_neg (by simp)]
        by_cases c3 : k = 4
        · rw [if_pos ⟨rfl, c3⟩, if_pos c3]
          exact ⟨rfl, p2, p3.put hS.srt ⟨rfl, rfl, rfl, hat.2.2.2.1, fun _ => rfl⟩⟩
        · rw [if_neg (fun q => c3 q.2), if_neg c3, p2]
          exact ⟨rfl, rfl, p3.put hS.srt ⟨rfl, rfl, rfl, rfl, fun _ => rfl⟩⟩
    · have hf : fd L s = false := by simpa using hf
      rw [hf]
      simp only [Bool.false_eq_true, false_and, if_false]
      by_cases hcl : cls L s = true
      · rw [h.par_no hS hc hcl, if_pos hcl, if_pos (by decide)]; exact ⟨rfl, rfl, h⟩
      · have hcl : cls L s = false := by simpa using hcl
        obtain ⟨p1, p2, p3⟩ := h.par_yes hS hc hl hcl
        have hw := hS.wp hc hl hcl
        rw [p1, hcl, p2]
        simp only [ne_eq, not_true_eq_false, if_false, Bool.false_eq_true]
        exact ⟨trivial, trivial, p3.put hw.1.srt ⟨rfl, rfl, rfl, rfl, fun _ => rfl⟩⟩

theorem Co.link {more : Int} {L : List Rw} {W : List Td} {nx : Int} {s tt : List UInt8} (h : Co more L W) (hS : Sd L nx) (hs : s = [] ∨ Cp s) (hl : s.length ≤ 1000) :
    (linkD W nx s tt).2.2 = (linkP L nx s tt).2.2 ∧ (linkD W nx s tt).2.1 = (linkP L nx s tt).2.1 ∧ Co more (linkP L nx s tt).1 (linkD W nx s tt).1 := by
  unfold linkD linkP
  by_cases e0 : s = []
  · rw [if_pos e0, if_pos e0]; exact ⟨rfl, rfl, h⟩
  · have hc : Cp s := hs.resolve_left e0
    rw [if_neg e0, if_neg e0, h.has hS.srt, h.has hS.srt]
    by_cases hf : fd L tt = false
    · rw [if_pos hf, if_pos hf]; exact ⟨rfl, rfl, h⟩
    · rw [if_neg hf, if_neg hf]
      have hf : fd L tt = true := by simpa using hf
      have hat := h.at hS.srt hf
      rw [← hat.2.1]
      by_cases c1 : (atR L tt).kind ≠ 1
      · rw [if_pos (.inl c1), if_pos c1]; exact ⟨rfl, rfl, h⟩
      · have hks : (atR L s).kind = 4 ↔ (fd L s = true ∧ (atD W s).k = 4) := by
          by_cases hfs : fd L s = true
          · rw [(h.at hS.srt hfs).2.1]; simp [hfs]
          · have : atR L s = zr := by unfold atR; rw [if_neg hfs]
            rw [this]
            constructor
            · intro q; cases q
            · intro q; exact absurd q.1 hfs
        rw [if_neg c1]
        by_cases c2 : (atR L s).kind = 4
        · rw [if_pos (.inr (hks.1 c2)), if_pos c2]; exact ⟨rfl, rfl, h⟩
        · rw [if_neg (fun q => q.elim c1 (fun q => c2 (hks.2 q))), if_neg c2]
          by_cases hcl : cls L s = true
          · rw [h.par_no hS hc hcl, if_pos hcl, if_pos (by decide)]; exact ⟨rfl, rfl, h⟩
          · have hcl : cls L s = false := by simpa using hcl
            obtain ⟨p1, p2, p3⟩ := h.par_yes hS hc hl hcl
            have hw := hS.wp hc hl hcl
            rw [p1, hcl, p2]
            simp only [ne_eq, not_true_eq_false, if_false, Bool.false_eq_true]
            exact ⟨trivial, trivial, p3.put hw.1.srt ⟨rfl, hat.2.1, hat.2.2.1, hat.2.2.2.1, hat.2.2.2.2⟩⟩

end Go.Proofs.YtpgiibpalmhhlaaGreatDoor
