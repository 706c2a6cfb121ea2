/-
  Contract: withParents, over plain rows.
-/
import Derived.Test.YtojnniacmmcddaaDoorX1
import Derived.Test.YtojnniacmmcddaaDoorW0
import Derived.Test.YtojnniacmmcddaaDoorP4
namespace Go.Proofs.YtojnniacmmcddaaDoor
open Go.RowKit
open Go.Lib hiding intOf
set_option linter.unusedVariables false
set_option linter.unusedSimpArgs false

/-- the directories in which a path lies, by number -/
def Ech (s : List UInt8) (i : Nat) : List UInt8 := ((chain (upL s))[i]?).getD []

theorem chain_next : ∀ (u : List UInt8) (i : Nat) (x : List UInt8), (chain u)[i]? = some x → ((chain u)[i + 1]?).getD [] = upL x := by
  intro u
  generalize hn : u.length = n
  induction n using Nat.strongRecOn generalizing u with
  | _ n ih =>
    intro i x h
    have hne : u ≠ [] := fun e => by rw [e, chain_nil] at h; simp at h
    rw [chain_cons hne] at h ⊢
    cases i with
    | zero =>
      simp at h
      subst h
      rcases chain_top (upL u) with e | e
      · rw [e, chain_nil]; rfl
      · rw [List.getElem?_cons_succ, ← List.head?_eq_getElem?, e]; rfl
    | succ i =>
      rw [List.getElem?_cons_succ] at h ⊢
      exact ih _ (by rw [← hn]; exact up_len hne) (upL u) rfl i x h

theorem Ech_zero (s : List UInt8) : Ech s 0 = upL s := by
  unfold Ech
  rcases chain_top (upL s) with e | e
  · rw [e, chain_nil]; rfl
  · rw [← List.head?_eq_getElem?, e]; rfl

theorem Ech_md {L : List Rw} {s : List UInt8} {i : Nat} (h : i < (mdL L s).length) : (mdL L s)[i]? = some (Ech s i) ∧ (chain (upL s))[i]? = some (Ech s i) := by
  have e : (chain (upL s))[i]? = (mdL L s)[i]? := by rw [md_st L s, List.getElem?_append_left h]
  have e2 : (mdL L s)[i]? = some (mdL L s)[i] := List.getElem?_eq_getElem h
  unfold Ech
  rw [e, e2]
  exact ⟨rfl, rfl⟩

theorem Ech_next {s : List UInt8} {i : Nat} (h : (chain (upL s))[i]? = some (Ech s i)) : Ech s (i + 1) = upL (Ech s i) := chain_next _ _ _ h

theorem Ech_st {L : List Rw} {s : List UInt8} : Ech s (mdL L s).length = ((stL L s).head?).getD [] := by
  unfold Ech
  rw [md_st L s, List.getElem?_append_right (Nat.le_refl _), Nat.sub_self, List.head?_eq_getElem?]

theorem Ech_len (s : List UInt8) (i : Nat) (hs : s ≠ []) : (Ech s i).length < s.length := by
  unfold Ech
  cases h : (chain (upL s))[i]? with
  | none => exact List.length_pos_iff.2 hs
  | some x =>
    have := (chain_le _ x (List.mem_of_getElem? h)).1
    have := up_len hs
    show x.length < _
    omega

theorem mds_map (s : List UInt8) (L : List Rw) : mds (Ech s) (mdL L s).length = (mdL L s).map mkR := by
  unfold mds
  apply List.ext_getElem?
  intro i
  rw [List.getElem?_map, List.getElem?_map]
  by_cases h : i < (mdL L s).length
  · rw [(Ech_md h).1, List.getElem?_range h]; rfl
  · rw [List.getElem?_eq_none (by simpa using h), List.getElem?_eq_none (by simpa using h)]; rfl

theorem numb_mk (nx : Int) (M : List (List UInt8)) : numb nx (M.map mkR).reverse M.length = mkAll nx M := by
  unfold numb mkAll
  apply List.ext_getElem?
  intro i
  rw [List.getElem?_mapIdx, List.getElem?_mapIdx, ← List.map_reverse, List.getElem?_map]
  cases h : M.reverse[i]? with
  | none => rfl
  | some x =>
    have hlt := (List.getElem?_eq_some_iff.1 h).1
    rw [List.length_reverse] at hlt
    simp [hlt]

/-- a tree at hand -/
def Tm (w : World) (v : Value) (L : List Rw) (nx : Int) : Prop := ∃ ad cap, v = .agg #[.slice ad L.length cap, .int .i64 nx] ∧ Rs w ad L ∧ L.length ≤ cap ∧ (ad = none → cap = 0)

theorem Tm.below {w w' : World} {v : Value} {L : List Rw} {nx : Int} (h : Tm w v L nx) (b : Below w.heap.size w w') : Tm w' v L nx := by
  obtain ⟨ad, cap, h1, h2, h3, h4⟩ := h
  exact ⟨ad, cap, h1, h2.below b, h3, h4⟩

theorem Rs.setFar {w : World} {ad : Option Addr} {L : List Rw} (h : Rs w ad L) {g : Nat} (hne : ∀ b o, ad = some ⟨b, o, none⟩ → b ≠ g) (v : Value) : Rs (w.setCell ⟨g, 0, none⟩ v) ad L := by
  rcases h with h | ⟨b, o, h1, h2, h3⟩
  · exact .inl h
  · refine .inr ⟨b, o, h1, by simpa using h2, fun j u hu => ?_⟩
    rw [World.cell?_setCell_far _ _ _ _ (by show g ≠ b; exact fun e => hne b o h1 e.symm)]
    exact h3 j u hu

theorem wp_made' (ad : Option Addr) (cap : Nat) (nx : Int) (L : List Rw) (s : List UInt8) (w : World) (hL : Srt L) (hr : Rs w ad L) (hl : L.length ≤ 1000000) (hcap : L.length ≤ cap) (hnil : ad = none → cap = 0) (hp : ∀ r ∈ L, r.p.length ≤ 4611686018427387903) (hs : s ≠ []) (hsl : s.length ≤ 1000) (hnx : 0 ≤ nx ∧ nx ≤ 1000000000000) (hc : cls L s = false) :
    Calls Tryd.prog 30 #[.agg #[.slice ad L.length cap, .int .i64 nx], .string (bs s)] w fun e w' => ∃ ad2 c2, e = .returned (.tuple #[.agg #[.slice ad2 (wpR L nx s).length c2, .int .i64 (nx + ((mdL L s).length : Int))], .int .i64 0]) ∧ Rs w' ad2 (wpR L nx s) ∧ (wpR L nx s).length ≤ c2 ∧ (ad2 = none → c2 = 0) ∧ Below w.heap.size w w' ∧ (∀ g, (∀ b o, ad = some ⟨b, o, none⟩ → b ≠ g) → g < w.heap.size → ∀ b o, ad2 = some ⟨b, o, none⟩ → b ≠ g) := by
  have hml := md_length L (s := s)
  by_cases hM : mdL L s = []
  · rw [wpR_nil hM, hM]
    have e0 : nx + (([] : List (List UInt8)).length : Int) = nx := by simp
    rw [e0]
    have key : Calls Tryd.prog 30 #[.agg #[.slice ad L.length cap, .int .i64 nx], .string (bs s)] w fun e w' => e = .returned (.tuple #[.agg #[.slice ad L.length cap, .int .i64 nx], .int .i64 0]) ∧ Below w.heap.size w w' := by
      by_cases hu : upL s = []
      · exact wp_root ad cap L.length nx s w hs (by omega) hu
      · have hst : stL L s = chain (upL s) := by rw [md_st L s, hM]; rfl
        rw [chain_cons hu] at hst
        have hf := st_fd hst
        have hk : (atR L (upL s)).kind = 4 := by
          unfold cls at hc
          rw [hst] at hc
          simpa using hc
        exact wp_dir ad cap nx L s w hL hr hl hp hs (by omega) hu hf hk
    refine key.mono ?_
    rintro e w' ⟨rfl, b⟩
    exact ⟨ad, cap, rfl, hr.below b, hcap, hnil, b, fun g h1 h2 => h1⟩
  · have hm : 0 < (mdL L s).length := List.length_pos_iff.2 hM
    obtain ⟨t, ht⟩ : ∃ t, (mdL L s).getLast? = some t := by
      cases h : (mdL L s).getLast? with
      | none => exact absurd (List.getLast?_eq_none_iff.1 h) hM
      | some t => exact ⟨t, rfl⟩
    have htl : Ech s ((mdL L s).length - 1) = t := by
      have h1 := (Ech_md (L := L) (s := s) (i := (mdL L s).length - 1) (by omega)).1
      rw [List.getLast?_eq_getElem?, h1] at ht
      exact Option.some.inj ht
    have hW : wpR L nx s = L.take (ix L t) ++ mkAll nx (mdL L s) ++ L.drop (ix L t) := by unfold wpR; rw [ht]
    have hixt := ix_le L t
    have core := wp_core ad cap L.length (mdL L s).length nx s (Ech s) (fun i => ix L (Ech s i)) w (wpR L nx s) hl hcap hm (by omega) hnx
      (fun W => by rw [Ech_zero]; exact up_some s hs (by omega) W)
      (fun i hi W => by
        have h1 := (Ech_md (L := L) (s := s) hi).2
        rw [Ech_next h1]
        have h2 := (chain_le _ _ (List.mem_of_getElem? h1)).2
        have := Ech_len s i hs
        exact up_some _ h2 (by omega) W)
      (fun i hi W hb => by
        have h1 := (Ech_md (L := L) (s := s) hi).1
        have hf := md_fd (List.mem_of_getElem? h1)
        have := Ech_len s i hs
        have q := find_w ad cap nx L (Ech s i) W hL (hr.below hb) hl hp (by omega)
        rwa [hf] at q)
      (fun i hi => by
        have h1 := (Ech_md (L := L) (s := s) hi).2
        have h2 := (chain_le _ _ (List.mem_of_getElem? h1)).2
        simpa using h2)
      (fun i hi => ix_le _ _)
      (fun i hi => by
        have h1 := (Ech_md (L := L) (s := s) hi).2
        rw [Ech_next h1]
        exact up_len (chain_le _ _ (List.mem_of_getElem? h1)).2)
      (by
        show _ ∨ _
        rw [Ech_st (L := L)]
        cases hst : stL L s with
        | nil => exact .inl rfl
        | cons y q =>
          right
          have hf := st_fd hst
          obtain ⟨r, hr1, hr2⟩ := fd_some hf
          have ha : atR L y = r := by unfold atR; rw [hf, hr1]; rfl
          have hk : r.kind = 4 := by
            unfold cls at hc
            rw [hst] at hc
            rw [← ha]
            simpa using hc
          obtain ⟨b, o, hb0, hb1, hb2⟩ := hr.at hr1
          have hy : Ech s (mdL L s).length = y := by rw [Ech_st, hst]; rfl
          have hlen := Ech_len s (mdL L s).length hs
          rw [hy] at hlen
          have hyne : y ≠ [] := by
            have hmem : y ∈ chain (upL s) := by rw [md_st L s, hst]; simp
            exact (chain_le _ _ hmem).2
          refine ⟨by simpa using hyne, (List.getElem?_eq_some_iff.1 hr1).1, fun W hb => ?_, r, b, o, hk, hb0, fun W hW => range_below hb2 hW hb1⟩
          have q2 := find_w ad cap nx L y W hL (hr.below hb) hl hp (by omega)
          rwa [hf] at q2)
      (by
        show ∀ W g gr cr, _
        rw [htl]
        intro W g gr cr hb d1 d2 d3 hrow
        have hnm : numb nx (mds (Ech s) (mdL L s).length).reverse (mdL L s).length = mkAll nx (mdL L s) := by rw [mds_map, numb_mk]
        rw [hnm] at hrow
        have hrW := hr.below hb
        have hlt : (L.take (ix L t)).length = ix L t := by rw [List.length_take]; omega
        have hld : (L.drop (ix L t)).length = L.length - ix L t := List.length_drop
        have := concat_w g ad (some ⟨gr, 0, none⟩) (lowAt ad cap (ix L t)) cap cr (cap - ix L t) (L.take (ix L t)) (mkAll nx (mdL L s)) (L.drop (ix L t)) W (by rw [hlt]; exact d1) (by rw [mkAll_length]; exact d2) (by rw [hld]; exact d3) (hrW.take _) hrow (hrW.drop cap _ hcap) hnil (fun h => by cases h) (fun h => by have := hnil (low_none h); omega) (by rw [mkAll_length]; omega) (by rw [hlt, hld, mkAll_length]; omega)
        rw [hW]
        exact this)
    refine core.mono ?_
    rintro e w' ⟨gd, c, rfl, h1, h2, h3, h4⟩
    exact ⟨some ⟨gd, 0, none⟩, c, rfl, h1, h3, (fun h => nomatch h), h4, fun g k1 k2 b o e => by injection e with e; injection e with e1; omega⟩

theorem wp_made (ad : Option Addr) (cap : Nat) (nx : Int) (L : List Rw) (s : List UInt8) (w : World) (hL : Srt L) (hr : Rs w ad L) (hl : L.length ≤ 1000000) (hcap : L.length ≤ cap) (hnil : ad = none → cap = 0) (hp : ∀ r ∈ L, r.p.length ≤ 4611686018427387903) (hs : s ≠ []) (hsl : s.length ≤ 1000) (hnx : 0 ≤ nx ∧ nx ≤ 1000000000000) (hc : cls L s = false) :
    Calls Tryd.prog 30 #[.agg #[.slice ad L.length cap, .int .i64 nx], .string (bs s)] w fun e w' => ∃ ad2 c2, e = .returned (.tuple #[.agg #[.slice ad2 (wpR L nx s).length c2, .int .i64 (nx + ((mdL L s).length : Int))], .int .i64 0]) ∧ Rs w' ad2 (wpR L nx s) ∧ (wpR L nx s).length ≤ c2 ∧ (ad2 = none → c2 = 0) ∧ Below w.heap.size w w' := by
  refine (wp_made' ad cap nx L s w hL hr hl hcap hnil hp hs hsl hnx hc).mono ?_
  rintro e w' ⟨a, c, h1, h2, h3, h4, h5, _⟩
  exact ⟨a, c, h1, h2, h3, h4, h5⟩

theorem wp_clash (ad : Option Addr) (cap : Nat) (nx : Int) (L : List Rw) (s : List UInt8) (w : World) (hL : Srt L) (hr : Rs w ad L) (hl : L.length ≤ 1000000) (hp : ∀ r ∈ L, r.p.length ≤ 4611686018427387903) (hs : s ≠ []) (hsl : s.length ≤ 1000) (hc : cls L s = true) :
    Calls Tryd.prog 30 #[.agg #[.slice ad L.length cap, .int .i64 nx], .string (bs s)] w fun e w' => e = .returned (.tuple #[.agg #[.slice none 0 0, .int .i64 0], .int .i64 130]) ∧ Below w.heap.size w w' := by
  have hml := md_length L (s := s)
  cases hst : stL L s with
  | nil => unfold cls at hc; rw [hst] at hc; cases hc
  | cons y q =>
    have hf := st_fd hst
    obtain ⟨r, hr1, hr2⟩ := fd_some hf
    have ha : atR L y = r := by unfold atR; rw [hf, hr1]; rfl
    have hk : r.kind ≠ 4 := by
      unfold cls at hc
      rw [hst] at hc
      rw [← ha]
      simpa using hc
    obtain ⟨b, o, hb0, hb1, hb2⟩ := hr.at hr1
    have hy : Ech s (mdL L s).length = y := by rw [Ech_st, hst]; rfl
    have hlen := Ech_len s (mdL L s).length hs
    have hyne : y ≠ [] := by
      have hmem : y ∈ chain (upL s) := by rw [md_st L s, hst]; simp
      exact (chain_le _ _ hmem).2
    refine wp_ref ad cap L.length (mdL L s).length nx s (Ech s) (fun i => ix L (Ech s i)) w hl (by omega)
      (fun W => by rw [Ech_zero]; exact up_some s hs (by omega) W)
      (fun i hi W => by
        have h1 := (Ech_md (L := L) (s := s) hi).2
        rw [Ech_next h1]
        have h2 := (chain_le _ _ (List.mem_of_getElem? h1)).2
        have := Ech_len s i hs
        exact up_some _ h2 (by omega) W)
      (fun i hi W hb => by
        have h1 := (Ech_md (L := L) (s := s) hi).1
        have hf := md_fd (List.mem_of_getElem? h1)
        have := Ech_len s i hs
        have q := find_w ad cap nx L (Ech s i) W hL (hr.below hb) hl hp (by omega)
        rwa [hf] at q)
      (fun i hi => by
        have h1 := (Ech_md (L := L) (s := s) hi).2
        have h2 := (chain_le _ _ (List.mem_of_getElem? h1)).2
        simpa using h2)
      (fun i hi => by
        have h1 := (Ech_md (L := L) (s := s) hi).2
        rw [Ech_next h1]
        exact up_len (chain_le _ _ (List.mem_of_getElem? h1)).2)
      (by show _ = _; rw [hy]; simpa using hyne) (by show ix L (Ech s (mdL L s).length) < _; rw [hy]; exact (List.getElem?_eq_some_iff.1 hr1).1)
      (fun W hb => by
        show Calls _ _ _ _ _
        have q2 := find_w ad cap nx L (Ech s (mdL L s).length) W hL (hr.below hb) hl hp (by omega)
        rw [hy] at q2 ⊢
        rwa [hf] at q2) r b o hk hb0 (fun W hW => by show W.rangeAt b (o + ix L (Ech s (mdL L s).length) * 13) r.cs; rw [hy]; exact range_below hb2 hW hb1)

end Go.Proofs.YtojnniacmmcddaaDoor
