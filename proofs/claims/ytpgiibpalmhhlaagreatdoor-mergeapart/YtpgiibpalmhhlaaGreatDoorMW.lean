/-
  Texts in one: X2, W1, W3, W4, W5, W6, W7, W8, W9, X3.
-/
import Derived.Test.YtpgiibpalmhhlaaGreatDoorMP
import Derived.Test.YtpgiibpalmhhlaaGreatDoorMT
namespace Go.Proofs.YtpgiibpalmhhlaaGreatDoor
open Go.RowKit
open Go.Lib hiding intOf
set_option linter.unusedVariables false
set_option linter.unusedSimpArgs false

/-- the directories in which a path lies, by number -/
def Ech (s : List UInt8) (i : Nat) : List UInt8 := ((chain (upL s))[i]?).getD []

theorem chain_next : ∀ (u : List UInt8) (i : Nat) (x : List UInt8), (chain u)[i]? = some x → ((chain u)[i + 1]?).getD [] = upL x := by
  intro u
  generalize hn : u.length = n
  induction n using Nat.strongRecOn generalizing u with
  | _ n ih =>
    intro i x h
    have hne : u ≠ [] := fun e => by rw [e, chain_nil] at h; simp at h
    rw [chain_cons hne] at h ⊢
    cases i with
    | zero =>
      simp at h
      subst h
      rcases chain_top (upL u) with e | e
      · rw [e, chain_nil]; rfl
      · rw [List.getElem?_cons_succ, ← List.head?_eq_getElem?, e]; rfl
    | succ i =>
      rw [List.getElem?_cons_succ] at h ⊢
      exact ih _ (by rw [← hn]; exact up_len hne) (upL u) rfl i x h

theorem Ech_zero (s : List UInt8) : Ech s 0 = upL s := by
  unfold Ech
  rcases chain_top (upL s) with e | e
  · rw [e, chain_nil]; rfl
  · rw [← List.head?_eq_getElem?, e]; rfl

theorem Ech_md {L : List Rw} {s : List UInt8} {i : Nat} (h : i < (mdL L s).length) : (mdL L s)[i]? = some (Ech s i) ∧ (chain (upL s))[i]? = some (Ech s i) := by
  have e : (chain (upL s))[i]? = (mdL L s)[i]? := by rw [md_st L s, List.getElem?_append_left h]
  have e2 : (mdL L s)[i]? = some (mdL L s)[i] := List.getElem?_eq_getElem h
  unfold Ech
  rw [e, e2]
  exact ⟨rfl, rfl⟩

theorem Ech_next {s : List UInt8} {i : Nat} (h : (chain (upL s))[i]? = some (Ech s i)) : Ech s (i + 1) = upL (Ech s i) := chain_next _ _ _ h

theorem Ech_st {L : List Rw} {s : List UInt8} : Ech s (mdL L s).length = ((stL L s).head?).getD [] := by
  unfold Ech
  rw [md_st L s, List.getElem?_append_right (Nat.le_refl _), Nat.sub_self, List.head?_eq_getElem?]

theorem Ech_len (s : List UInt8) (i : Nat) (hs : s ≠ []) : (Ech s i).length < s.length := by
  unfold Ech
  cases h : (chain (upL s))[i]? with
  | none => exact List.length_pos_iff.2 hs
  | some x =>
    have := (chain_le _ x (List.mem_of_getElem? h)).1
    have := up_len hs
    show x.length < _
    omega

theorem mds_map (s : List UInt8) (L : List Rw) : mds (Ech s) (mdL L s).length = (mdL L s).map mkR := by
  unfold mds
  apply List.ext_getElem?
  intro i
  rw [List.getElem?_map, List.getElem?_map]
  by_cases h : i < (mdL L s).length
  · rw [(Ech_md h).1, List.getElem?_range h]; rfl
  · rw [List.getElem?_eq_none (by simpa using h), List.getElem?_eq_none (by simpa using h)]; rfl

theorem numb_mk (nx : Int) (M : List (List UInt8)) : numb nx (M.map mkR).reverse M.length = mkAll nx M := by
  unfold numb mkAll
  apply List.ext_getElem?
  intro i
  rw [List.getElem?_mapIdx, List.getElem?_mapIdx, ← List.map_reverse, List.getElem?_map]
  cases h : M.reverse[i]? with
  | none => rfl
  | some x =>
    have hlt := (List.getElem?_eq_some_iff.1 h).1
    rw [List.length_reverse] at hlt
    simp [hlt]

/-- a tree at hand -/
def Tm (w : World) (v : Value) (L : List Rw) (nx : Int) : Prop := ∃ ad cap, v = .agg #[.slice ad L.length cap, .int .i64 nx] ∧ Rs w ad L ∧ L.length ≤ cap ∧ (ad = none → cap = 0)

theorem Tm.below {w w' : World} {v : Value} {L : List Rw} {nx : Int} (h : Tm w v L nx) (b : Below w.heap.size w w') : Tm w' v L nx := by
  obtain ⟨ad, cap, h1, h2, h3, h4⟩ := h
  exact ⟨ad, cap, h1, h2.below b, h3, h4⟩

theorem Rs.setFar {w : World} {ad : Option Addr} {L : List Rw} (h : Rs w ad L) {g : Nat} (hne : ∀ b o, ad = some ⟨b, o, none⟩ → b ≠ g) (v : Value) : Rs (w.setCell ⟨g, 0, none⟩ v) ad L := by
  rcases h with h | ⟨b, o, h1, h2, h3⟩
  · exact .inl h
  · refine .inr ⟨b, o, h1, by simpa using h2, fun j u hu => ?_⟩
    rw [World.cell?_setCell_far _ _ _ _ (by show g ≠ b; exact fun e => hne b o h1 e.symm)]
    exact h3 j u hu

theorem wp_made' (ad : Option Addr) (cap : Nat) (nx : Int) (L : List Rw) (s : List UInt8) (w : World) (hL : Srt L) (hr : Rs w ad L) (hl : L.length ≤ 1000000) (hcap : L.length ≤ cap) (hnil : ad = none → cap = 0) (hp : ∀ r ∈ L, r.p.length ≤ 4611686018427387903) (hs : s ≠ []) (hsl : s.length ≤ 1000) (hnx : 0 ≤ nx ∧ nx ≤ 1000000000000) (hc : cls L s = false) :
    Calls Tryz.prog 43 #[.agg #[.slice ad L.length cap, .int .i64 nx], .string (bs s)] w fun e w' => ∃ ad2 c2, e = .returned (.tuple #[.agg #[.slice ad2 (wpR L nx s).length c2, .int .i64 (nx + ((mdL L s).length : Int))], .int .i64 0]) ∧ Rs w' ad2 (wpR L nx s) ∧ (wpR L nx s).length ≤ c2 ∧ (ad2 = none → c2 = 0) ∧ Below w.heap.size w w' ∧ (∀ g, (∀ b o, ad = some ⟨b, o, none⟩ → b ≠ g) → g < w.heap.size → ∀ b o, ad2 = some ⟨b, o, none⟩ → b ≠ g) := by
  have hml := md_length L (s := s)
  by_cases hM : mdL L s = []
  · rw [wpR_nil hM, hM]
    have e0 : nx + (([] : List (List UInt8)).length : Int) = nx := by simp
    rw [e0]
    have key : Calls Tryz.prog 43 #[.agg #[.slice ad L.length cap, .int .i64 nx], .string (bs s)] w fun e w' => e = .returned (.tuple #[.agg #[.slice ad L.length cap, .int .i64 nx], .int .i64 0]) ∧ Below w.heap.size w w' := by
      by_cases hu : upL s = []
      · exact wp_root ad cap L.length nx s w hs (by omega) hu
      · have hst : stL L s = chain (upL s) := by rw [md_st L s, hM]; rfl
        rw [chain_cons hu] at hst
        have hf := st_fd hst
        have hk : (atR L (upL s)).kind = 4 := by
          unfold cls at hc
          rw [hst] at hc
          simpa using hc
        exact wp_dir ad cap nx L s w hL hr hl hp hs (by omega) hu hf hk
    refine key.mono ?_
    rintro e w' ⟨rfl, b⟩
    exact ⟨ad, cap, rfl, hr.below b, hcap, hnil, b, fun g h1 h2 => h1⟩
  · have hm : 0 < (mdL L s).length := List.length_pos_iff.2 hM
    obtain ⟨t, ht⟩ : ∃ t, (mdL L s).getLast? = some t := by
      cases h : (mdL L s).getLast? with
      | none => exact absurd (List.getLast?_eq_none_iff.1 h) hM
      | some t => exact ⟨t, rfl⟩
    have htl : Ech s ((mdL L s).length - 1) = t := by
      have h1 := (Ech_md (L := L) (s := s) (i := (mdL L s).length - 1) (by omega)).1
      rw [List.getLast?_eq_getElem?, h1] at ht
      exact Option.some.inj ht
    have hW : wpR L nx s = L.take (ix L t) ++ mkAll nx (mdL L s) ++ L.drop (ix L t) := by unfold wpR; rw [ht]
    have hixt := ix_le L t
    have core := wp_core ad cap L.length (mdL L s).length nx s (Ech s) (fun i => ix L (Ech s i)) w (wpR L nx s) hl hcap hm (by omega) hnx
      (fun W => by rw [Ech_zero]; exact up_some s hs (by omega) W)
      (fun i hi W => by
        have h1 := (Ech_md (L := L) (s := s) hi).2
        rw [Ech_next h1]
        have h2 := (chain_le _ _ (List.mem_of_getElem? h1)).2
        have := Ech_len s i hs
        exact up_some _ h2 (by omega) W)
      (fun i hi W hb => by
        have h1 := (Ech_md (L := L) (s := s) hi).1
        have hf := md_fd (List.mem_of_getElem? h1)
        have := Ech_len s i hs
        have q := find_w ad cap nx L (Ech s i) W hL (hr.below hb) hl hp (by omega)
        rwa [hf] at q)
      (fun i hi => by
        have h1 := (Ech_md (L := L) (s := s) hi).2
        have h2 := (chain_le _ _ (List.mem_of_getElem? h1)).2
        simpa using h2)
      (fun i hi => ix_le _ _)
      (fun i hi => by
        have h1 := (Ech_md (L := L) (s := s) hi).2
        rw [Ech_next h1]
        exact up_len (chain_le _ _ (List.mem_of_getElem? h1)).2)
      (by
        show _ ∨ _
        rw [Ech_st (L := L)]
        cases hst : stL L s with
        | nil => exact .inl rfl
        | cons y q =>
          right
          have hf := st_fd hst
          obtain ⟨r, hr1, hr2⟩ := fd_some hf
          have ha : atR L y = r := by unfold atR; rw [hf, hr1]; rfl
          have hk : r.kind = 4 := by
            unfold cls at hc
            rw [hst] at hc
            rw [← ha]
            simpa using hc
          obtain ⟨b, o, hb0, hb1, hb2⟩ := hr.at hr1
          have hy : Ech s (mdL L s).length = y := by rw [Ech_st, hst]; rfl
          have hlen := Ech_len s (mdL L s).length hs
          rw [hy] at hlen
          have hyne : y ≠ [] := by
            have hmem : y ∈ chain (upL s) := by rw [md_st L s, hst]; simp
            exact (chain_le _ _ hmem).2
          refine ⟨by simpa using hyne, (List.getElem?_eq_some_iff.1 hr1).1, fun W hb => ?_, r, b, o, hk, hb0, fun W hW => range_below hb2 hW hb1⟩
          have q2 := find_w ad cap nx L y W hL (hr.below hb) hl hp (by omega)
          rwa [hf] at q2)
      (by
        show ∀ W g gr cr, _
        rw [htl]
        intro W g gr cr hb d1 d2 d3 hrow
        have hnm : numb nx (mds (Ech s) (mdL L s).length).reverse (mdL L s).length = mkAll nx (mdL L s) := by rw [mds_map, numb_mk]
        rw [hnm] at hrow
        have hrW := hr.below hb
        have hlt : (L.take (ix L t)).length = ix L t := by rw [List.length_take]; omega
        have hld : (L.drop (ix L t)).length = L.length - ix L t := List.length_drop
        have := concat_w g ad (some ⟨gr, 0, none⟩) (lowAt ad cap (ix L t)) cap cr (cap - ix L t) (L.take (ix L t)) (mkAll nx (mdL L s)) (L.drop (ix L t)) W (by rw [hlt]; exact d1) (by rw [mkAll_length]; exact d2) (by rw [hld]; exact d3) (hrW.take _) hrow (hrW.drop cap _ hcap) hnil (fun h => by cases h) (fun h => by have := hnil (low_none h); omega) (by rw [mkAll_length]; omega) (by rw [hlt, hld, mkAll_length]; omega)
        rw [hW]
        exact this)
    refine core.mono ?_
    rintro e w' ⟨gd, c, rfl, h1, h2, h3, h4⟩
    exact ⟨some ⟨gd, 0, none⟩, c, rfl, h1, h3, (fun h => nomatch h), h4, fun g k1 k2 b o e => by injection e with e; injection e with e1; omega⟩

theorem wp_made (ad : Option Addr) (cap : Nat) (nx : Int) (L : List Rw) (s : List UInt8) (w : World) (hL : Srt L) (hr : Rs w ad L) (hl : L.length ≤ 1000000) (hcap : L.length ≤ cap) (hnil : ad = none → cap = 0) (hp : ∀ r ∈ L, r.p.length ≤ 4611686018427387903) (hs : s ≠ []) (hsl : s.length ≤ 1000) (hnx : 0 ≤ nx ∧ nx ≤ 1000000000000) (hc : cls L s = false) :
    Calls Tryz.prog 43 #[.agg #[.slice ad L.length cap, .int .i64 nx], .string (bs s)] w fun e w' => ∃ ad2 c2, e = .returned (.tuple #[.agg #[.slice ad2 (wpR L nx s).length c2, .int .i64 (nx + ((mdL L s).length : Int))], .int .i64 0]) ∧ Rs w' ad2 (wpR L nx s) ∧ (wpR L nx s).length ≤ c2 ∧ (ad2 = none → c2 = 0) ∧ Below w.heap.size w w' := by
  refine (wp_made' ad cap nx L s w hL hr hl hcap hnil hp hs hsl hnx hc).mono ?_
  rintro e w' ⟨a, c, h1, h2, h3, h4, h5, _⟩
  exact ⟨a, c, h1, h2, h3, h4, h5⟩

theorem wp_clash (ad : Option Addr) (cap : Nat) (nx : Int) (L : List Rw) (s : List UInt8) (w : World) (hL : Srt L) (hr : Rs w ad L) (hl : L.length ≤ 1000000) (hp : ∀ r ∈ L, r.p.length ≤ 4611686018427387903) (hs : s ≠ []) (hsl : s.length ≤ 1000) (hc : cls L s = true) :
    Calls Tryz.prog 43 #[.agg #[.slice ad L.length cap, .int .i64 nx], .string (bs s)] w fun e w' => e = .returned (.tuple #[.agg #[.slice none 0 0, .int .i64 0], .int .i64 130]) ∧ Below w.heap.size w w' := by
  have hml := md_length L (s := s)
  cases hst : stL L s with
  | nil => unfold cls at hc; rw [hst] at hc; cases hc
  | cons y q =>
    have hf := st_fd hst
    obtain ⟨r, hr1, hr2⟩ := fd_some hf
    have ha : atR L y = r := by unfold atR; rw [hf, hr1]; rfl
    have hk : r.kind ≠ 4 := by
      unfold cls at hc
      rw [hst] at hc
      rw [← ha]
      simpa using hc
    obtain ⟨b, o, hb0, hb1, hb2⟩ := hr.at hr1
    have hy : Ech s (mdL L s).length = y := by rw [Ech_st, hst]; rfl
    have hlen := Ech_len s (mdL L s).length hs
    have hyne : y ≠ [] := by
      have hmem : y ∈ chain (upL s) := by rw [md_st L s, hst]; simp
      exact (chain_le _ _ hmem).2
    refine wp_ref ad cap L.length (mdL L s).length nx s (Ech s) (fun i => ix L (Ech s i)) w hl (by omega)
      (fun W => by rw [Ech_zero]; exact up_some s hs (by omega) W)
      (fun i hi W => by
        have h1 := (Ech_md (L := L) (s := s) hi).2
        rw [Ech_next h1]
        have h2 := (chain_le _ _ (List.mem_of_getElem? h1)).2
        have := Ech_len s i hs
        exact up_some _ h2 (by omega) W)
      (fun i hi W hb => by
        have h1 := (Ech_md (L := L) (s := s) hi).1
        have hf := md_fd (List.mem_of_getElem? h1)
        have := Ech_len s i hs
        have q := find_w ad cap nx L (Ech s i) W hL (hr.below hb) hl hp (by omega)
        rwa [hf] at q)
      (fun i hi => by
        have h1 := (Ech_md (L := L) (s := s) hi).2
        have h2 := (chain_le _ _ (List.mem_of_getElem? h1)).2
        simpa using h2)
      (fun i hi => by
        have h1 := (Ech_md (L := L) (s := s) hi).2
        rw [Ech_next h1]
        exact up_len (chain_le _ _ (List.mem_of_getElem? h1)).2)
      (by show _ = _; rw [hy]; simpa using hyne) (by show ix L (Ech s (mdL L s).length) < _; rw [hy]; exact (List.getElem?_eq_some_iff.1 hr1).1)
      (fun W hb => by
        show Calls _ _ _ _ _
        have q2 := find_w ad cap nx L (Ech s (mdL L s).length) W hL (hr.below hb) hl hp (by omega)
        rw [hy] at q2 ⊢
        rwa [hf] at q2) r b o hk hb0 (fun W hW => by show W.rangeAt b (o + ix L (Ech s (mdL L s).length) * 13) r.cs; rw [hy]; exact range_below hb2 hW hb1)

end Go.Proofs.YtpgiibpalmhhlaaGreatDoor

namespace Go.Proofs.YtpgiibpalmhhlaaGreatDoor
open Go.RowKit
open Go.Lib hiding intOf
set_option linter.unusedVariables false
set_option linter.unusedSimpArgs false

set_option maxRecDepth 20000 in
set_option maxHeartbeats 4000000 in
theorem same_core (ad : Option Addr) (cap n m : Nat) (nx : Int) (w : World) (M : List Rw)
    (KL : Hid (∀ W, Below w.heap.size w W → Calls Tryz.prog 30 #[.slice ad n cap] W fun e w' => ∃ gd c, e = .returned (.slice (some ⟨gd, 0, none⟩) m c) ∧ Rs w' (some ⟨gd, 0, none⟩) M ∧ W.heap.size ≤ gd ∧ m ≤ c ∧ Below W.heap.size W w')) :
    Calls Tryz.prog 41 #[.agg #[.slice ad n cap, .int .i64 nx]] w fun e w' => ∃ gd c, e = .returned (.agg #[.slice (some ⟨gd, 0, none⟩) m c, .int .i64 nx]) ∧ Rs w' (some ⟨gd, 0, none⟩) M ∧ w.heap.size ≤ gd ∧ m ≤ c ∧ Below w.heap.size w w' := by
  have H0 := Two.mk0 w #[.slice ad n cap, .int .i64 nx] #[.slice none 0 0, .int .i64 0] 26 26
  have HS : Hid (∀ W, Two w W #[.slice ad n cap, .int .i64 nx] #[.slice none 0 0, .int .i64 0] 26 26 → W.cell? ⟨w.heap.size, 0, none⟩ = some (.slice ad n cap) ∧ W.cell? ⟨w.heap.size, 1, none⟩ = some (.int .i64 nx)) := fun W h => ⟨cells_of h.1 0, cells_of h.1 1⟩
  have HK : Hid (∀ W p v, p.block = w.heap.size + 1 → (W.cell? ⟨w.heap.size, 0, none⟩ = some (.slice ad n cap) ∧ W.cell? ⟨w.heap.size, 1, none⟩ = some (.int .i64 nx)) → (fun W : World => W.cell? ⟨w.heap.size, 0, none⟩ = some (.slice ad n cap) ∧ W.cell? ⟨w.heap.size, 1, none⟩ = some (.int .i64 nx)) (World.setCell W p v)) := fun W p v hp h => ⟨by rw [World.cell?_setCell_far _ _ _ _ (by rw [hp]; show _ ≠ w.heap.size; omega)]; exact h.1, by rw [World.cell?_setCell_far _ _ _ _ (by rw [hp]; show _ ≠ w.heap.size; omega)]; exact h.2⟩
  go_enter Tryz.func41, Tryz.ntmps41
  go_wp2_with fail
  generalize (w.alloc _).alloc _ = w1 at *
  have L1 := H0.drew
  have h3 := HS.out _ L1
  have lt0 := H0.2.2.2
  go_region_held3 (fun W => W.cell? ⟨w.heap.size, 0, none⟩ = some (.slice ad n cap) ∧ W.cell? ⟨w.heap.size, 1, none⟩ = some (.int .i64 nx)) (first | assumption | exact h3 | exact HK.out _ _ _ rfl (HK.out _ _ _ rfl h5) | exact HK.out _ _ _ rfl h5) (
    (go_at_call 30; refine (KL.out _ L1.2.2.1).mono ?_; rintro e w5 ⟨gd, c, rfl, R5, G5, C5, b5⟩; have L5 := L1.next b5; have h5 := HS.out _ L5; have d3 := cells_of L5.2.1 0; have d4 := cells_of L5.2.1 1; have g3 := froz_of L5.2.1))
  have hg2 : gd ≠ w.heap.size + 1 := by
    have := L1.2.2.2
    omega
  have hg3 : w.heap.size ≤ gd := by
    have := L1.2.2.2
    omega
  have e2 := two_set L5.2.1 (.slice (some ⟨gd, 0, none⟩) m c) (.int .i64 nx)
  have R6 := R5.far (gd := gd) rfl (w.heap.size + 1) hg2 (.slice (some ⟨gd, 0, none⟩) m c) (.int .i64 nx)
  have b6 : Below w.heap.size w ((w5.setCell ⟨w.heap.size + 1, 0, none⟩ (.slice (some ⟨gd, 0, none⟩) m c)).setCell ⟨w.heap.size + 1, 1, none⟩ (.int .i64 nx)) := (L5.2.2.1.setCell (by show _ ≤ w.heap.size + 1; omega) _).setCell (by show _ ≤ w.heap.size + 1; omega) _
  go_wp2_with fail
  exact bodyPost_ret (results_cell_row rfl _ _ (w.heap.size + 1) 26 _ (0, 0) _ rfl e2 Tryz.underlying26 rfl (by kernel_rfl)) rfl ⟨gd, c, rfl, R6, hg3, C5, b6⟩

theorem same_some (a : Addr) (cap : Nat) (nx : Int) (L : List Rw) (w : World) (hr : Rs w (some a) L) (hl : L.length ≤ 1000000) :
    Calls Tryz.prog 41 #[.agg #[.slice (some a) L.length cap, .int .i64 nx]] w fun e w' => ∃ gd c, e = .returned (.agg #[.slice (some ⟨gd, 0, none⟩) L.length c, .int .i64 nx]) ∧ Rs w' (some ⟨gd, 0, none⟩) L ∧ w.heap.size ≤ gd ∧ L.length ≤ c ∧ Below w.heap.size w w' :=
  same_core (some a) cap L.length L.length nx w L fun W hb => clone_some a cap L W (hr.below hb) hl

set_option maxRecDepth 20000 in
set_option maxHeartbeats 4000000 in
theorem same_nil (cap : Nat) (nx : Int) (w : World) :
    Calls Tryz.prog 41 #[.agg #[.slice none 0 cap, .int .i64 nx]] w fun e w' => e = .returned (.agg #[.slice none 0 0, .int .i64 nx]) ∧ Below w.heap.size w w' := by
  have H0 := Two.mk0 w #[.slice none 0 cap, .int .i64 nx] #[.slice none 0 0, .int .i64 0] 26 26
  have KL : Hid (∀ W, Calls Tryz.prog 30 #[.slice none 0 cap] W fun e w' => e = .returned (.slice none 0 0) ∧ w' = W) := fun W => clone_nil cap W
  have HS : Hid (∀ W, Two w W #[.slice none 0 cap, .int .i64 nx] #[.slice none 0 0, .int .i64 0] 26 26 → W.cell? ⟨w.heap.size, 0, none⟩ = some (.slice none 0 cap) ∧ W.cell? ⟨w.heap.size, 1, none⟩ = some (.int .i64 nx)) := fun W h => ⟨cells_of h.1 0, cells_of h.1 1⟩
  have HK : Hid (∀ W p v, p.block = w.heap.size + 1 → (W.cell? ⟨w.heap.size, 0, none⟩ = some (.slice none 0 cap) ∧ W.cell? ⟨w.heap.size, 1, none⟩ = some (.int .i64 nx)) → (fun W : World => W.cell? ⟨w.heap.size, 0, none⟩ = some (.slice none 0 cap) ∧ W.cell? ⟨w.heap.size, 1, none⟩ = some (.int .i64 nx)) (World.setCell W p v)) := fun W p v hp h => ⟨by rw [World.cell?_setCell_far _ _ _ _ (by rw [hp]; show _ ≠ w.heap.size; omega)]; exact h.1, by rw [World.cell?_setCell_far _ _ _ _ (by rw [hp]; show _ ≠ w.heap.size; omega)]; exact h.2⟩
  go_enter Tryz.func41, Tryz.ntmps41
  go_wp2_with fail
  generalize (w.alloc _).alloc _ = w1 at *
  have L1 := H0.drew
  have h3 := HS.out _ L1
  have lt0 := H0.2.2.2
  go_region_held3 (fun W => W.cell? ⟨w.heap.size, 0, none⟩ = some (.slice none 0 cap) ∧ W.cell? ⟨w.heap.size, 1, none⟩ = some (.int .i64 nx)) (first | assumption | exact h3 | exact HK.out _ _ _ rfl (HK.out _ _ _ rfl h5) | exact HK.out _ _ _ rfl h5) (
    (go_at_call 30; refine (KL.out _).mono ?_; rintro e w5 ⟨rfl, b5⟩; have L5 : Two w w5 _ _ _ _ := b5 ▸ L1; have h5 := HS.out _ L5; have d3 := cells_of L5.2.1 0; have d4 := cells_of L5.2.1 1; have g3 := froz_of L5.2.1; clear b5))
  have e2 := two_set L5.2.1 (.slice none 0 0) (.int .i64 nx)
  have b6 : Below w.heap.size w ((w5.setCell ⟨w.heap.size + 1, 0, none⟩ (.slice none 0 0)).setCell ⟨w.heap.size + 1, 1, none⟩ (.int .i64 nx)) := (L5.2.2.1.setCell (by show _ ≤ w.heap.size + 1; omega) _).setCell (by show _ ≤ w.heap.size + 1; omega) _
  go_wp2_with fail
  exact bodyPost_ret (results_cell_row rfl _ _ (w.heap.size + 1) 26 _ (0, 0) _ rfl e2 Tryz.underlying26 rfl (by kernel_rfl)) rfl ⟨rfl, b6⟩

end Go.Proofs.YtpgiibpalmhhlaaGreatDoor

namespace Go.Proofs.YtpgiibpalmhhlaaGreatDoor
open Go.RowKit
open Go.Lib hiding intOf
set_option linter.unusedVariables false
set_option linter.unusedSimpArgs false

structure A3 (w W : World) (T C D : Array Value) : Prop where
  tre : W.heap[w.heap.size]? = some (.cells T 26 (0, 0))
  nod : W.heap[w.heap.size + 1]? = some (.cells C 41 (0, 0))
  res : W.heap[w.heap.size + 2]? = some (.cells D 26 (0, 0))
  bel : Below w.heap.size w W
  lt : w.heap.size + 3 ≤ W.heap.size

theorem A3.next {w W W' : World} {T C D : Array Value} (h : A3 w W T C D) (b : Below W.heap.size W W') : A3 w W' T C D := by
  have := h.lt
  exact ⟨by rw [b.block _ (by omega)]; exact h.tre, by rw [b.block _ (by omega)]; exact h.nod, by rw [b.block _ (by omega)]; exact h.res, h.bel.trans (b.mono h.bel.size), Nat.le_trans h.lt b.size⟩
theorem A3.drew {w W : World} {T C D : Array Value} (h : A3 w W T C D) : A3 w W.drew T C D := ⟨h.tre, h.nod, h.res, h.bel.drew, h.lt⟩
theorem A3.mk0 (w : World) (T C D : Array Value) : A3 w (((w.alloc (.cells T 26)).alloc (.cells C 41)).alloc (.cells D 26)) T C D := by
  have s1 := size_box w (.cells T 26)
  have s2 := size_box (w.alloc (.cells T 26)) (.cells C 41)
  have s3 := size_box ((w.alloc (.cells T 26)).alloc (.cells C 41)) (.cells D 26)
  refine ⟨?_, ?_, ?_, ?_, by omega⟩
  · rw [Below.heap_alloc _ _ _ (by omega), Below.heap_alloc _ _ _ (by omega)]; exact heap_alloc_new _ _
  · rw [Below.heap_alloc _ _ _ (by omega)]
    have := heap_alloc_new (w.alloc (.cells T 26)) (.cells C 41)
    rwa [s1] at this
  · have := heap_alloc_new ((w.alloc (.cells T 26)).alloc (.cells C 41)) (.cells D 26)
    rwa [s2, s1] at this
  · exact ((below_box w _).alloc (by omega) _).alloc (by omega) _

set_option maxRecDepth 20000 in
set_option maxHeartbeats 4000000 in
theorem add_new (ad : Option Addr) (cap n m : Nat) (nx ny : Int) (s : List UInt8) (kd md sz : Int) (mk : Bool) (w : World) (L M : List Rw) (hs : s ≠ []) (h0 : 0 ≤ ny) (h1 : ny ≤ 1000000000000)
    (KA : Hid (∀ W, Below w.heap.size w W → Calls Tryz.prog 39 #[.agg #[.slice ad n cap, .int .i64 nx], .string (bs s)] W fun e w' => e = .returned (.tuple #[.agg #[.string ⟨#[]⟩, .int .i64 0, .int .i64 0, .int .i64 0, .int .i64 0, .int .i64 0, .int .i64 0, .string ⟨#[]⟩, .string ⟨#[]⟩, .string ⟨#[]⟩, .slice none 0 0, .int .i64 0, .bool false], .bool false]) ∧ Below W.heap.size W w'))
    (KP : Hid (∀ W, Below w.heap.size w W → Calls Tryz.prog 43 #[.agg #[.slice ad n cap, .int .i64 nx], .string (bs s)] W fun e w' => ∃ ad2 c2, e = .returned (.tuple #[.agg #[.slice ad2 m c2, .int .i64 ny], .int .i64 0]) ∧ Rs w' ad2 L ∧ m ≤ c2 ∧ (ad2 = none → c2 = 0) ∧ Below W.heap.size W w'))
    (KT : Hid (∀ W ad2 c2, Rs W ad2 L → m ≤ c2 → (ad2 = none → c2 = 0) → Calls Tryz.prog 44 #[.agg #[.slice ad2 m c2, .int .i64 (ny + 1)], .agg #[.string (bs s), .int .i64 ny, .int .i64 kd, .int .i64 md, .int .i64 0, .int .i64 0, .int .i64 0, .string ⟨#[]⟩, .string ⟨#[]⟩, .string ⟨#[]⟩, .slice none 0 0, .int .i64 sz, .bool mk]] W fun e w' => ∃ gd c, e = .returned (.agg #[.slice (some ⟨gd, 0, none⟩) M.length c, .int .i64 (ny + 1)]) ∧ Rs w' (some ⟨gd, 0, none⟩) M ∧ W.heap.size ≤ gd ∧ M.length ≤ c ∧ Below W.heap.size W w')) :
    Calls Tryz.prog 22 #[.agg #[.slice ad n cap, .int .i64 nx], .string (bs s), .agg #[.int .i64 kd, .int .i64 md, .int .i64 0, .int .i64 0, .int .i64 0, .string ⟨#[]⟩, .string ⟨#[]⟩, .string ⟨#[]⟩, .slice none 0 0, .int .i64 sz, .bool mk]] w fun e w' => ∃ gd c, e = .returned (.tuple #[.agg #[.slice (some ⟨gd, 0, none⟩) M.length c, .int .i64 (ny + 1)], .int .i64 0]) ∧ Rs w' (some ⟨gd, 0, none⟩) M ∧ w.heap.size ≤ gd ∧ M.length ≤ c ∧ Below w.heap.size w w' := by
  have H0 := A3.mk0 w #[.slice ad n cap, .int .i64 nx] #[.int .i64 kd, .int .i64 md, .int .i64 0, .int .i64 0, .int .i64 0, .string ⟨#[]⟩, .string ⟨#[]⟩, .string ⟨#[]⟩, .slice none 0 0, .int .i64 sz, .bool mk] #[.slice none 0 0, .int .i64 0]
  have ht := bs_toList s
  have hE : s.isEmpty = false := by simpa using hs
  go_enter Tryz.func22, Tryz.ntmps22
  go_upto_region 4 with (first
    | (go_at_call 39; refine (KA.out _ H0.bel).mono ?_; rintro e w2 ⟨rfl, b2⟩; have H2 : Hid (A3 w w2 _ _ _) := H0.next b2; clear b2)
    | (refine wpList_store_row rfl 43 _ _ rfl w2.heap.size #[.string ⟨#[]⟩, .int .i64 0, .int .i64 0, .int .i64 0, .int .i64 0, .int .i64 0, .int .i64 0, .string ⟨#[]⟩, .string ⟨#[]⟩, .string ⟨#[]⟩, .slice none 0 0, .int .i64 0, .bool false] rfl rfl 43 _ (heap_alloc_new w2 _) (by kernel_rfl) rfl (by simp [Value.oneCell']) ?_))
  have b3 : Below w2.heap.size w2 ((w2.alloc (.cells #[.string ⟨#[]⟩, .int .i64 0, .int .i64 0, .int .i64 0, .int .i64 0, .int .i64 0, .int .i64 0, .string ⟨#[]⟩, .string ⟨#[]⟩, .string ⟨#[]⟩, .slice none 0 0, .int .i64 0, .bool false] 43)).setRow w2.heap.size #[.string ⟨#[]⟩, .int .i64 0, .int .i64 0, .int .i64 0, .int .i64 0, .int .i64 0, .int .i64 0, .string ⟨#[]⟩, .string ⟨#[]⟩, .string ⟨#[]⟩, .slice none 0 0, .int .i64 0, .bool false]) := below_setRow (below_box w2 _) (Nat.le_refl _) _
  have r3 := setRow_heap (w2.alloc (.cells #[.string ⟨#[]⟩, .int .i64 0, .int .i64 0, .int .i64 0, .int .i64 0, .int .i64 0, .int .i64 0, .string ⟨#[]⟩, .string ⟨#[]⟩, .string ⟨#[]⟩, .slice none 0 0, .int .i64 0, .bool false] 43)) w2.heap.size _ #[.string ⟨#[]⟩, .int .i64 0, .int .i64 0, .int .i64 0, .int .i64 0, .int .i64 0, .int .i64 0, .string ⟨#[]⟩, .string ⟨#[]⟩, .string ⟨#[]⟩, .slice none 0 0, .int .i64 0, .bool false] _ _ (heap_alloc_new w2 _)
  have l3 : w2.heap.size + 1 ≤ ((w2.alloc (.cells #[.string ⟨#[]⟩, .int .i64 0, .int .i64 0, .int .i64 0, .int .i64 0, .int .i64 0, .int .i64 0, .string ⟨#[]⟩, .string ⟨#[]⟩, .string ⟨#[]⟩, .slice none 0 0, .int .i64 0, .bool false] 43)).setRow w2.heap.size #[.string ⟨#[]⟩, .int .i64 0, .int .i64 0, .int .i64 0, .int .i64 0, .int .i64 0, .int .i64 0, .string ⟨#[]⟩, .string ⟨#[]⟩, .string ⟨#[]⟩, .slice none 0 0, .int .i64 0, .bool false]).heap.size := by rw [setRow_size, size_box]; exact Nat.le_refl _
  generalize (w2.alloc _).setRow _ _ = w3 at *
  have H3 := (H2.out.next b3).drew
  have r3' : w3.drew.heap[w2.heap.size]? = _ := r3
  have l3' : w2.heap.size + 1 ≤ w3.drew.heap.size := l3
  clear b3 r3 l3
  refine wp_region_held_drew (S := fun _ => True) (by kernel_rfl) trivial (fun hHeld => ?_)
  refine wpAnyH_take (i := 0) (v := .bool false) rfl (by kernel_rfl) (by kernel_rfl) (by kernel_rfl) (fun _ _ _ h => h) (Or.inl ⟨by rfl, fun W _ => by go_simp⟩) trivial ?_
  (try simp only [Act.put, List.getElem_toArray, List.getElem_cons_zero, List.getElem_cons_succ, List.setIfInBounds_toArray, List.set_cons_zero, List.set_cons_succ])
  refine wpAnyH_take (i := 1) (v := .bool false) rfl (by kernel_rfl) (by kernel_rfl) (by kernel_rfl) (fun _ _ _ h => h) (Or.inl ⟨by rfl, fun W _ => by go_simp⟩) trivial ?_
  (try simp only [Act.put, List.getElem_toArray, List.getElem_cons_zero, List.getElem_cons_succ, List.setIfInBounds_toArray, List.set_cons_zero, List.set_cons_succ])
  refine wpAnyH_take (i := 2) (v := undef) rfl (by kernel_rfl) (by kernel_rfl) (by kernel_rfl) (fun _ _ _ h => h) (Or.inr ⟨by rfl, rfl⟩) trivial ?_
  (try simp only [Act.put, List.getElem_toArray, List.getElem_cons_zero, List.getElem_cons_succ, List.setIfInBounds_toArray, List.set_cons_zero, List.set_cons_succ])
  refine wpAnyH_take (i := 3) (v := undef) rfl (by kernel_rfl) (by kernel_rfl) (by kernel_rfl) (fun _ _ _ h => h) (Or.inr ⟨by rfl, rfl⟩) trivial ?_
  (try simp only [Act.put, List.getElem_toArray, List.getElem_cons_zero, List.getElem_cons_succ, List.setIfInBounds_toArray, List.set_cons_zero, List.set_cons_succ])
  refine wpAnyH_take (i := 4) (v := undef) rfl (by kernel_rfl) (by kernel_rfl) (by kernel_rfl) (fun _ _ _ h => h) (Or.inr ⟨by rfl, rfl⟩) trivial ?_
  (try simp only [Act.put, List.getElem_toArray, List.getElem_cons_zero, List.getElem_cons_succ, List.setIfInBounds_toArray, List.set_cons_zero, List.set_cons_succ])
  refine wpAnyH_take (i := 5) (v := undef) rfl (by kernel_rfl) (by kernel_rfl) (by kernel_rfl) (fun _ _ _ h => h) (Or.inr ⟨by rfl, rfl⟩) trivial ?_
  (try simp only [Act.put, List.getElem_toArray, List.getElem_cons_zero, List.getElem_cons_succ, List.setIfInBounds_toArray, List.set_cons_zero, List.set_cons_succ])
  refine wpAnyH_take (i := 6) (v := undef) rfl (by kernel_rfl) (by kernel_rfl) (by kernel_rfl) (fun _ _ _ h => h) (Or.inr ⟨by rfl, rfl⟩) trivial ?_
  (try simp only [Act.put, List.getElem_toArray, List.getElem_cons_zero, List.getElem_cons_succ, List.setIfInBounds_toArray, List.set_cons_zero, List.set_cons_succ])
  refine wpAnyH_take (i := 7) (v := undef) rfl (by kernel_rfl) (by kernel_rfl) (by kernel_rfl) (fun _ _ _ h => h) (Or.inr ⟨by rfl, rfl⟩) trivial ?_
  (try simp only [Act.put, List.getElem_toArray, List.getElem_cons_zero, List.getElem_cons_succ, List.setIfInBounds_toArray, List.set_cons_zero, List.set_cons_succ])
  refine wpAnyH_take (i := 8) (v := .bool false) rfl (by kernel_rfl) (by kernel_rfl) (by kernel_rfl) (fun _ _ _ h => h) (Or.inl ⟨by rfl, fun W _ => by go_simp⟩) trivial ?_
  (try simp only [Act.put, List.getElem_toArray, List.getElem_cons_zero, List.getElem_cons_succ, List.setIfInBounds_toArray, List.set_cons_zero, List.set_cons_succ])
  refine wpAnyH_done (by kernel_rfl) ?_ _
  have c3 := cells_of H3.tre
  go_upto_region 9 with (first
    | (go_at_call 43; refine (KP.out _ H3.bel).mono ?_; rintro e w4 ⟨ad2, c2, rfl, R4, C4, N4, b4⟩; have H4 : Hid (A3 w w4 _ _ _) := H3.next b4; have r4 : Hid (w4.heap[w2.heap.size]? = _) := (b4.block _ (by omega)).trans r3'; have l4 : w2.heap.size + 1 ≤ w4.heap.size := Nat.le_trans l3' b4.size; clear b4))
  have b5 : Below w4.heap.size w4 (w4.alloc (.cells #[.slice ad2 m c2, .int .i64 ny] 26)) := below_box w4 _
  have q5 := heap_alloc_new w4 (.cells #[.slice ad2 m c2, .int .i64 ny] 26)
  have l5 := size_box w4 (.cells #[.slice ad2 m c2, .int .i64 ny] 26)
  generalize w4.alloc _ = w5 at *
  have H5 : Hid (A3 w w5 _ _ _) := A3.next H4.out b5
  have R5 : Hid (Rs w5 ad2 L) := R4.below b5
  have r5 : w5.heap[w2.heap.size]? = _ := (b5.block _ (by omega)).trans r4.out
  have c5 := cells_of r5
  have c6 := cells_of q5
  have f6 := froz_of q5
  have hw1 : IntKind.i64.wrap (ny + 1) = ny + 1 := by rw [IntKind.wrap_i64]; omega
  have X4 : Hid (w.heap.size + 3 ≤ w4.heap.size) := H4.out.lt
  have b56 : Hid (Below w4.heap.size w4 w5) := b5
  clear c3 b5 H4 r4
  go_upto_region 13 with (fail)
  have b6 : Below w4.heap.size w5 (w5.setCell ⟨w4.heap.size, 1, none⟩ (.int .i64 (ny + 1))) := (Below.refl w4.heap.size w5).setCell (by show w4.heap.size ≤ w4.heap.size; exact Nat.le_refl _) _
  have q6 : (w5.setCell ⟨w4.heap.size, 1, none⟩ (.int .i64 (ny + 1))).heap[w4.heap.size]? = some (.cells #[.slice ad2 m c2, .int .i64 (ny + 1)] 26 (0, 0)) := by
    rw [setCell_eq_setRow w5 w4.heap.size 1 _ 26 (0, 0) _ q5]
    exact setRow_heap _ _ _ _ _ _ q5
  have H6 : Hid (A3 w (w5.setCell ⟨w4.heap.size, 1, none⟩ (.int .i64 (ny + 1))) _ _ _) := ⟨by rw [b6.block _ (by have := X4.out; omega)]; exact H5.out.tre, by rw [b6.block _ (by have := X4.out; omega)]; exact H5.out.nod, by rw [b6.block _ (by have := X4.out; omega)]; exact H5.out.res, H5.out.bel.trans (b6.mono (by have := X4.out; omega)), Nat.le_trans H5.out.lt b6.size⟩
  have R6 : Hid (Rs (w5.setCell ⟨w4.heap.size, 1, none⟩ (.int .i64 (ny + 1))) ad2 L) := (R4.below (b56.out.trans b6))
  generalize w5.setCell _ _ = w6 at *
  clear c5 c6 f6 q5 r5
  have c7 := cells_of q6
  have c8 := cells_of H6.out.nod
  go_wp2_with (go_at_call 44; refine (KT.out _ ad2 c2 R6.out C4 N4).mono ?_; rintro e w7 ⟨gd, c, rfl, R7, G7, C7, b7⟩; have H7 : Hid (A3 w w7 _ _ _) := A3.next H6.out b7; have d3 := cells_of H7.out.res; have g3 := froz_of H7.out.res)
  have lt6 := H6.out.lt
  have e2 := two_set H7.out.res (.slice (some ⟨gd, 0, none⟩) M.length c) (.int .i64 (ny + 1))
  have R8 := R7.far (gd := gd) rfl (w.heap.size + 2) (by omega) (.slice (some ⟨gd, 0, none⟩) M.length c) (.int .i64 (ny + 1))
  have b8 : Below w.heap.size w ((w7.setCell ⟨w.heap.size + 2, 0, none⟩ (.slice (some ⟨gd, 0, none⟩) M.length c)).setCell ⟨w.heap.size + 2, 1, none⟩ (.int .i64 (ny + 1))) := (H7.out.bel.setCell (by show _ ≤ w.heap.size + 2; omega) _).setCell (by show _ ≤ w.heap.size + 2; omega) _
  have hld := run_loadVar_row _ _ _ 26 _ _ _ e2 Tryz.underlying26 rfl (by kernel_rfl)
  exact bodyPost_ret (by rw [results_cell_tmp rfl]; simp [asAddr, hld]) rfl ⟨gd, c, rfl, R8, by omega, C7, b8⟩

end Go.Proofs.YtpgiibpalmhhlaaGreatDoor

namespace Go.Proofs.YtpgiibpalmhhlaaGreatDoor
open Go.RowKit
open Go.Lib hiding intOf
set_option linter.unusedVariables false
set_option linter.unusedSimpArgs false

set_option maxRecDepth 20000 in
set_option maxHeartbeats 4000000 in
theorem add_clash (ad : Option Addr) (cap n m : Nat) (nx : Int) (s : List UInt8) (kd md sz : Int) (mk : Bool) (w : World) (X : Option Addr → Nat → World → World → Prop) (hX : ∀ a c W W' x y, X a c W W' → w.heap.size + 2 < W.heap.size → X a c w ((W'.setCell ⟨w.heap.size + 2, 0, none⟩ x).setCell ⟨w.heap.size + 2, 1, none⟩ y)) (hs : s ≠ [])
    (KA : Hid (∀ W, Below w.heap.size w W → Calls Tryz.prog 39 #[.agg #[.slice ad n cap, .int .i64 nx], .string (bs s)] W fun e w' => e = .returned (.tuple #[.agg #[.string ⟨#[]⟩, .int .i64 0, .int .i64 0, .int .i64 0, .int .i64 0, .int .i64 0, .int .i64 0, .string ⟨#[]⟩, .string ⟨#[]⟩, .string ⟨#[]⟩, .slice none 0 0, .int .i64 0, .bool false], .bool false]) ∧ Below W.heap.size W w'))
    (KP : Hid (∀ W, Below w.heap.size w W → Calls Tryz.prog 43 #[.agg #[.slice ad n cap, .int .i64 nx], .string (bs s)] W fun e w' => e = .returned (.tuple #[.agg #[.slice none 0 0, .int .i64 0], .int .i64 130]) ∧ Below W.heap.size W w'))
    (KT : Hid (∀ W, Below w.heap.size w W → Calls Tryz.prog 41 #[.agg #[.slice ad n cap, .int .i64 nx]] W fun e w' => ∃ a c, e = .returned (.agg #[.slice a m c, .int .i64 nx]) ∧ X a c W w' ∧ Below W.heap.size W w')) :
    Calls Tryz.prog 22 #[.agg #[.slice ad n cap, .int .i64 nx], .string (bs s), .agg #[.int .i64 kd, .int .i64 md, .int .i64 0, .int .i64 0, .int .i64 0, .string ⟨#[]⟩, .string ⟨#[]⟩, .string ⟨#[]⟩, .slice none 0 0, .int .i64 sz, .bool mk]] w fun e w' => ∃ a c, e = .returned (.tuple #[.agg #[.slice a m c, .int .i64 nx], .int .i64 130]) ∧ X a c w w' ∧ Below w.heap.size w w' := by
  have H0 := A3.mk0 w #[.slice ad n cap, .int .i64 nx] #[.int .i64 kd, .int .i64 md, .int .i64 0, .int .i64 0, .int .i64 0, .string ⟨#[]⟩, .string ⟨#[]⟩, .string ⟨#[]⟩, .slice none 0 0, .int .i64 sz, .bool mk] #[.slice none 0 0, .int .i64 0]
  have ht := bs_toList s
  have hE : s.isEmpty = false := by simpa using hs
  go_enter Tryz.func22, Tryz.ntmps22
  go_upto_region 4 with (first
    | (go_at_call 39; refine (KA.out _ H0.bel).mono ?_; rintro e w2 ⟨rfl, b2⟩; have H2 : Hid (A3 w w2 _ _ _) := H0.next b2; clear b2)
    | (refine wpList_store_row rfl 43 _ _ rfl w2.heap.size #[.string ⟨#[]⟩, .int .i64 0, .int .i64 0, .int .i64 0, .int .i64 0, .int .i64 0, .int .i64 0, .string ⟨#[]⟩, .string ⟨#[]⟩, .string ⟨#[]⟩, .slice none 0 0, .int .i64 0, .bool false] rfl rfl 43 _ (heap_alloc_new w2 _) (by kernel_rfl) rfl (by simp [Value.oneCell']) ?_))
  have b3 : Below w2.heap.size w2 ((w2.alloc (.cells #[.string ⟨#[]⟩, .int .i64 0, .int .i64 0, .int .i64 0, .int .i64 0, .int .i64 0, .int .i64 0, .string ⟨#[]⟩, .string ⟨#[]⟩, .string ⟨#[]⟩, .slice none 0 0, .int .i64 0, .bool false] 43)).setRow w2.heap.size #[.string ⟨#[]⟩, .int .i64 0, .int .i64 0, .int .i64 0, .int .i64 0, .int .i64 0, .int .i64 0, .string ⟨#[]⟩, .string ⟨#[]⟩, .string ⟨#[]⟩, .slice none 0 0, .int .i64 0, .bool false]) := below_setRow (below_box w2 _) (Nat.le_refl _) _
  have r3 := setRow_heap (w2.alloc (.cells #[.string ⟨#[]⟩, .int .i64 0, .int .i64 0, .int .i64 0, .int .i64 0, .int .i64 0, .int .i64 0, .string ⟨#[]⟩, .string ⟨#[]⟩, .string ⟨#[]⟩, .slice none 0 0, .int .i64 0, .bool false] 43)) w2.heap.size _ #[.string ⟨#[]⟩, .int .i64 0, .int .i64 0, .int .i64 0, .int .i64 0, .int .i64 0, .int .i64 0, .string ⟨#[]⟩, .string ⟨#[]⟩, .string ⟨#[]⟩, .slice none 0 0, .int .i64 0, .bool false] _ _ (heap_alloc_new w2 _)
  have l3 : w2.heap.size + 1 ≤ ((w2.alloc (.cells #[.string ⟨#[]⟩, .int .i64 0, .int .i64 0, .int .i64 0, .int .i64 0, .int .i64 0, .int .i64 0, .string ⟨#[]⟩, .string ⟨#[]⟩, .string ⟨#[]⟩, .slice none 0 0, .int .i64 0, .bool false] 43)).setRow w2.heap.size #[.string ⟨#[]⟩, .int .i64 0, .int .i64 0, .int .i64 0, .int .i64 0, .int .i64 0, .int .i64 0, .string ⟨#[]⟩, .string ⟨#[]⟩, .string ⟨#[]⟩, .slice none 0 0, .int .i64 0, .bool false]).heap.size := by rw [setRow_size, size_box]; exact Nat.le_refl _
  generalize (w2.alloc _).setRow _ _ = w3 at *
  have H3 := (H2.out.next b3).drew
  have r3' : w3.drew.heap[w2.heap.size]? = _ := r3
  have l3' : w2.heap.size + 1 ≤ w3.drew.heap.size := l3
  clear b3 r3 l3
  refine wp_region_held_drew (S := fun _ => True) (by kernel_rfl) trivial (fun hHeld => ?_)
  refine wpAnyH_take (i := 0) (v := .bool false) rfl (by kernel_rfl) (by kernel_rfl) (by kernel_rfl) (fun _ _ _ h => h) (Or.inl ⟨by rfl, fun W _ => by go_simp⟩) trivial ?_
  (try simp only [Act.put, List.getElem_toArray, List.getElem_cons_zero, List.getElem_cons_succ, List.setIfInBounds_toArray, List.set_cons_zero, List.set_cons_succ])
  refine wpAnyH_take (i := 1) (v := .bool false) rfl (by kernel_rfl) (by kernel_rfl) (by kernel_rfl) (fun _ _ _ h => h) (Or.inl ⟨by rfl, fun W _ => by go_simp⟩) trivial ?_
  (try simp only [Act.put, List.getElem_toArray, List.getElem_cons_zero, List.getElem_cons_succ, List.setIfInBounds_toArray, List.set_cons_zero, List.set_cons_succ])
  refine wpAnyH_take (i := 2) (v := undef) rfl (by kernel_rfl) (by kernel_rfl) (by kernel_rfl) (fun _ _ _ h => h) (Or.inr ⟨by rfl, rfl⟩) trivial ?_
  (try simp only [Act.put, List.getElem_toArray, List.getElem_cons_zero, List.getElem_cons_succ, List.setIfInBounds_toArray, List.set_cons_zero, List.set_cons_succ])
  refine wpAnyH_take (i := 3) (v := undef) rfl (by kernel_rfl) (by kernel_rfl) (by kernel_rfl) (fun _ _ _ h => h) (Or.inr ⟨by rfl, rfl⟩) trivial ?_
  (try simp only [Act.put, List.getElem_toArray, List.getElem_cons_zero, List.getElem_cons_succ, List.setIfInBounds_toArray, List.set_cons_zero, List.set_cons_succ])
  refine wpAnyH_take (i := 4) (v := undef) rfl (by kernel_rfl) (by kernel_rfl) (by kernel_rfl) (fun _ _ _ h => h) (Or.inr ⟨by rfl, rfl⟩) trivial ?_
  (try simp only [Act.put, List.getElem_toArray, List.getElem_cons_zero, List.getElem_cons_succ, List.setIfInBounds_toArray, List.set_cons_zero, List.set_cons_succ])
  refine wpAnyH_take (i := 5) (v := undef) rfl (by kernel_rfl) (by kernel_rfl) (by kernel_rfl) (fun _ _ _ h => h) (Or.inr ⟨by rfl, rfl⟩) trivial ?_
  (try simp only [Act.put, List.getElem_toArray, List.getElem_cons_zero, List.getElem_cons_succ, List.setIfInBounds_toArray, List.set_cons_zero, List.set_cons_succ])
  refine wpAnyH_take (i := 6) (v := undef) rfl (by kernel_rfl) (by kernel_rfl) (by kernel_rfl) (fun _ _ _ h => h) (Or.inr ⟨by rfl, rfl⟩) trivial ?_
  (try simp only [Act.put, List.getElem_toArray, List.getElem_cons_zero, List.getElem_cons_succ, List.setIfInBounds_toArray, List.set_cons_zero, List.set_cons_succ])
  refine wpAnyH_take (i := 7) (v := undef) rfl (by kernel_rfl) (by kernel_rfl) (by kernel_rfl) (fun _ _ _ h => h) (Or.inr ⟨by rfl, rfl⟩) trivial ?_
  (try simp only [Act.put, List.getElem_toArray, List.getElem_cons_zero, List.getElem_cons_succ, List.setIfInBounds_toArray, List.set_cons_zero, List.set_cons_succ])
  refine wpAnyH_take (i := 8) (v := .bool false) rfl (by kernel_rfl) (by kernel_rfl) (by kernel_rfl) (fun _ _ _ h => h) (Or.inl ⟨by rfl, fun W _ => by go_simp⟩) trivial ?_
  (try simp only [Act.put, List.getElem_toArray, List.getElem_cons_zero, List.getElem_cons_succ, List.setIfInBounds_toArray, List.set_cons_zero, List.set_cons_succ])
  refine wpAnyH_done (by kernel_rfl) ?_ _
  have c3 := cells_of H3.tre
  go_upto_region 8 with (first
    | (go_at_call 43; refine (KP.out _ H3.bel).mono ?_; rintro e w4 ⟨rfl, b4⟩; have H4 : Hid (A3 w w4 _ _ _) := H3.next b4; clear b4))
  have b5 : Below w4.heap.size w4 (w4.alloc (.cells #[.slice none 0 0, .int .i64 0] 26)) := below_box w4 _
  generalize w4.alloc _ = w5 at *
  have H5 : Hid (A3 w w5 _ _ _) := A3.next H4.out b5
  clear c3 b5 H4
  have c5 := cells_of H5.out.tre
  go_wp2_with (go_at_call 41; refine (KT.out _ H5.out.bel).mono ?_; rintro e w7 ⟨a, c, rfl, R7, b7⟩; have H7 : Hid (A3 w w7 _ _ _) := A3.next H5.out b7; have d3 := cells_of H7.out.res; have g3 := froz_of H7.out.res)
  have lt5 := H5.out.lt
  have e2 := two_set H7.out.res (.slice a m c) (.int .i64 nx)
  have R8 := hX _ _ _ _ (.slice a m c) (.int .i64 nx) R7 (by omega)
  have b8 : Below w.heap.size w ((w7.setCell ⟨w.heap.size + 2, 0, none⟩ (.slice a m c)).setCell ⟨w.heap.size + 2, 1, none⟩ (.int .i64 nx)) := (H7.out.bel.setCell (by show _ ≤ w.heap.size + 2; omega) _).setCell (by show _ ≤ w.heap.size + 2; omega) _
  have hld := run_loadVar_row _ _ _ 26 _ _ _ e2 Tryz.underlying26 rfl (by kernel_rfl)
  exact bodyPost_ret (by rw [results_cell_tmp rfl]; simp [asAddr, hld]) rfl ⟨a, c, rfl, R8, b8⟩

end Go.Proofs.YtpgiibpalmhhlaaGreatDoor

namespace Go.Proofs.YtpgiibpalmhhlaaGreatDoor
open Go.RowKit
open Go.Lib hiding intOf
set_option linter.unusedVariables false
set_option linter.unusedSimpArgs false

set_option maxRecDepth 20000 in
set_option maxHeartbeats 4000000 in
theorem add_root (ad : Option Addr) (cap n m : Nat) (nx : Int) (kd md sz : Int) (mk : Bool) (w : World) (X : Option Addr → Nat → World → World → Prop) (hX : ∀ a c W W' x y, X a c W W' → w.heap.size + 2 < W.heap.size → X a c w ((W'.setCell ⟨w.heap.size + 2, 0, none⟩ x).setCell ⟨w.heap.size + 2, 1, none⟩ y))
    (KT : Hid (∀ W, Below w.heap.size w W → Calls Tryz.prog 41 #[.agg #[.slice ad n cap, .int .i64 nx]] W fun e w' => ∃ a c, e = .returned (.agg #[.slice a m c, .int .i64 nx]) ∧ X a c W w' ∧ Below W.heap.size W w')) :
    Calls Tryz.prog 22 #[.agg #[.slice ad n cap, .int .i64 nx], .string ⟨#[]⟩, .agg #[.int .i64 kd, .int .i64 md, .int .i64 0, .int .i64 0, .int .i64 0, .string ⟨#[]⟩, .string ⟨#[]⟩, .string ⟨#[]⟩, .slice none 0 0, .int .i64 sz, .bool mk]] w fun e w' => ∃ a c, e = .returned (.tuple #[.agg #[.slice a m c, .int .i64 nx], .int .i64 100]) ∧ X a c w w' ∧ Below w.heap.size w w' := by
  have H0 := A3.mk0 w #[.slice ad n cap, .int .i64 nx] #[.int .i64 kd, .int .i64 md, .int .i64 0, .int .i64 0, .int .i64 0, .string ⟨#[]⟩, .string ⟨#[]⟩, .string ⟨#[]⟩, .slice none 0 0, .int .i64 sz, .bool mk] #[.slice none 0 0, .int .i64 0]
  go_enter Tryz.func22, Tryz.ntmps22
  go_upto_region 2 with (fail)
  generalize ((w.alloc _).alloc _).alloc _ = w5 at *
  have H5 : Hid (A3 w w5 _ _ _) := H0
  have c5 := cells_of H0.tre
  clear H0
  go_wp2_with (go_at_call 41; refine (KT.out _ H5.out.bel).mono ?_; rintro e w7 ⟨a, c, rfl, R7, b7⟩; have H7 : Hid (A3 w w7 _ _ _) := A3.next H5.out b7; have d3 := cells_of H7.out.res; have g3 := froz_of H7.out.res)
  have lt5 := H5.out.lt
  have e2 := two_set H7.out.res (.slice a m c) (.int .i64 nx)
  have R8 := hX _ _ _ _ (.slice a m c) (.int .i64 nx) R7 (by omega)
  have b8 : Below w.heap.size w ((w7.setCell ⟨w.heap.size + 2, 0, none⟩ (.slice a m c)).setCell ⟨w.heap.size + 2, 1, none⟩ (.int .i64 nx)) := (H7.out.bel.setCell (by show _ ≤ w.heap.size + 2; omega) _).setCell (by show _ ≤ w.heap.size + 2; omega) _
  have hld := run_loadVar_row _ _ _ 26 _ _ _ e2 Tryz.underlying26 rfl (by kernel_rfl)
  exact bodyPost_ret (by rw [results_cell_tmp rfl]; simp [asAddr, hld]) rfl ⟨a, c, rfl, R8, b8⟩

end Go.Proofs.YtpgiibpalmhhlaaGreatDoor

namespace Go.Proofs.YtpgiibpalmhhlaaGreatDoor
open Go.RowKit
open Go.Lib hiding intOf
set_option linter.unusedVariables false
set_option linter.unusedSimpArgs false

set_option maxRecDepth 20000 in
set_option maxHeartbeats 4000000 in
theorem add_over (ad : Option Addr) (cap n m : Nat) (nx ny : Int) (s : List UInt8) (kd md sz : Int) (mk : Bool) (w : World) (L M : List Rw) (r : Rw) (hrk : r.kind ≠ 4) (hkd : kd ≠ 4) (hs : s ≠ []) (h0 : 0 ≤ ny) (h1 : ny ≤ 1000000000000)
    (KA : Hid (∀ W, Below w.heap.size w W → Calls Tryz.prog 39 #[.agg #[.slice ad n cap, .int .i64 nx], .string (bs s)] W fun e w' => e = .returned (.tuple #[.agg #[.string (bs r.p), .int .i64 r.id, .int .i64 r.kind, .int .i64 r.mode, .int .i64 0, .int .i64 0, .int .i64 0, .string ⟨#[]⟩, .string ⟨#[]⟩, .string ⟨#[]⟩, .slice none 0 0, .int .i64 r.size, .bool r.made], .bool true]) ∧ Below W.heap.size W w'))
    (KP : Hid (∀ W, Below w.heap.size w W → Calls Tryz.prog 43 #[.agg #[.slice ad n cap, .int .i64 nx], .string (bs s)] W fun e w' => ∃ ad2 c2, e = .returned (.tuple #[.agg #[.slice ad2 m c2, .int .i64 ny], .int .i64 0]) ∧ Rs w' ad2 L ∧ m ≤ c2 ∧ (ad2 = none → c2 = 0) ∧ Below W.heap.size W w'))
    (KT : Hid (∀ W ad2 c2, Rs W ad2 L → m ≤ c2 → (ad2 = none → c2 = 0) → Calls Tryz.prog 44 #[.agg #[.slice ad2 m c2, .int .i64 (ny + 1)], .agg #[.string (bs s), .int .i64 ny, .int .i64 kd, .int .i64 md, .int .i64 0, .int .i64 0, .int .i64 0, .string ⟨#[]⟩, .string ⟨#[]⟩, .string ⟨#[]⟩, .slice none 0 0, .int .i64 sz, .bool mk]] W fun e w' => ∃ gd c, e = .returned (.agg #[.slice (some ⟨gd, 0, none⟩) M.length c, .int .i64 (ny + 1)]) ∧ Rs w' (some ⟨gd, 0, none⟩) M ∧ W.heap.size ≤ gd ∧ M.length ≤ c ∧ Below W.heap.size W w')) :
    Calls Tryz.prog 22 #[.agg #[.slice ad n cap, .int .i64 nx], .string (bs s), .agg #[.int .i64 kd, .int .i64 md, .int .i64 0, .int .i64 0, .int .i64 0, .string ⟨#[]⟩, .string ⟨#[]⟩, .string ⟨#[]⟩, .slice none 0 0, .int .i64 sz, .bool mk]] w fun e w' => ∃ gd c, e = .returned (.tuple #[.agg #[.slice (some ⟨gd, 0, none⟩) M.length c, .int .i64 (ny + 1)], .int .i64 0]) ∧ Rs w' (some ⟨gd, 0, none⟩) M ∧ w.heap.size ≤ gd ∧ M.length ≤ c ∧ Below w.heap.size w w' := by
  have KD : Hid (∀ W, Calls Tryz.prog 42 #[.agg #[.string (bs r.p), .int .i64 r.id, .int .i64 r.kind, .int .i64 r.mode, .int .i64 0, .int .i64 0, .int .i64 0, .string ⟨#[]⟩, .string ⟨#[]⟩, .string ⟨#[]⟩, .slice none 0 0, .int .i64 r.size, .bool r.made]] W fun e w' => e = .returned (.bool false) ∧ Below W.heap.size W w') := fun W => by
    have := isDir_w r W
    rwa [decide_eq_false hrk] at this
  have hk1 : (kd == 4) = false := by simpa using hkd
  have hk2 : decide (kd = 4) = false := decide_eq_false hkd
  have H0 := A3.mk0 w #[.slice ad n cap, .int .i64 nx] #[.int .i64 kd, .int .i64 md, .int .i64 0, .int .i64 0, .int .i64 0, .string ⟨#[]⟩, .string ⟨#[]⟩, .string ⟨#[]⟩, .slice none 0 0, .int .i64 sz, .bool mk] #[.slice none 0 0, .int .i64 0]
  have ht := bs_toList s
  have hE : s.isEmpty = false := by simpa using hs
  go_enter Tryz.func22, Tryz.ntmps22
  go_upto_region 4 with (first
    | (go_at_call 39; refine (KA.out _ H0.bel).mono ?_; rintro e w2 ⟨rfl, b2⟩; have H2 : Hid (A3 w w2 _ _ _) := H0.next b2; clear b2)
    | (refine wpList_store_row rfl 43 _ _ rfl w2.heap.size #[.string (bs r.p), .int .i64 r.id, .int .i64 r.kind, .int .i64 r.mode, .int .i64 0, .int .i64 0, .int .i64 0, .string ⟨#[]⟩, .string ⟨#[]⟩, .string ⟨#[]⟩, .slice none 0 0, .int .i64 r.size, .bool r.made] rfl rfl 43 _ (heap_alloc_new w2 _) (by kernel_rfl) rfl (by simp [Value.oneCell']) ?_))
  have b3 : Below w2.heap.size w2 ((w2.alloc (.cells #[.string ⟨#[]⟩, .int .i64 0, .int .i64 0, .int .i64 0, .int .i64 0, .int .i64 0, .int .i64 0, .string ⟨#[]⟩, .string ⟨#[]⟩, .string ⟨#[]⟩, .slice none 0 0, .int .i64 0, .bool false] 43)).setRow w2.heap.size #[.string (bs r.p), .int .i64 r.id, .int .i64 r.kind, .int .i64 r.mode, .int .i64 0, .int .i64 0, .int .i64 0, .string ⟨#[]⟩, .string ⟨#[]⟩, .string ⟨#[]⟩, .slice none 0 0, .int .i64 r.size, .bool r.made]) := below_setRow (below_box w2 _) (Nat.le_refl _) _
  have r3 := setRow_heap (w2.alloc (.cells #[.string ⟨#[]⟩, .int .i64 0, .int .i64 0, .int .i64 0, .int .i64 0, .int .i64 0, .int .i64 0, .string ⟨#[]⟩, .string ⟨#[]⟩, .string ⟨#[]⟩, .slice none 0 0, .int .i64 0, .bool false] 43)) w2.heap.size _ #[.string (bs r.p), .int .i64 r.id, .int .i64 r.kind, .int .i64 r.mode, .int .i64 0, .int .i64 0, .int .i64 0, .string ⟨#[]⟩, .string ⟨#[]⟩, .string ⟨#[]⟩, .slice none 0 0, .int .i64 r.size, .bool r.made] _ _ (heap_alloc_new w2 _)
  have l3 : w2.heap.size + 1 ≤ ((w2.alloc (.cells #[.string ⟨#[]⟩, .int .i64 0, .int .i64 0, .int .i64 0, .int .i64 0, .int .i64 0, .int .i64 0, .string ⟨#[]⟩, .string ⟨#[]⟩, .string ⟨#[]⟩, .slice none 0 0, .int .i64 0, .bool false] 43)).setRow w2.heap.size #[.string (bs r.p), .int .i64 r.id, .int .i64 r.kind, .int .i64 r.mode, .int .i64 0, .int .i64 0, .int .i64 0, .string ⟨#[]⟩, .string ⟨#[]⟩, .string ⟨#[]⟩, .slice none 0 0, .int .i64 r.size, .bool r.made]).heap.size := by rw [setRow_size, size_box]; exact Nat.le_refl _
  generalize (w2.alloc _).setRow _ _ = w3 at *
  have H3 := (H2.out.next b3).drew
  have r3' : w3.drew.heap[w2.heap.size]? = _ := r3
  have l3' : w2.heap.size + 1 ≤ w3.drew.heap.size := l3
  clear b3 r3 l3
  have h3 : (∀ k, w3.drew.cell? ⟨w2.heap.size, k, none⟩ = (#[.string (bs r.p), .int .i64 r.id, .int .i64 r.kind, .int .i64 r.mode, .int .i64 0, .int .i64 0, .int .i64 0, .string ⟨#[]⟩, .string ⟨#[]⟩, .string ⟨#[]⟩, .slice none 0 0, .int .i64 r.size, .bool r.made] : Array Value)[k]?) ∧ w3.drew.cell? ⟨w.heap.size + 1, 0, none⟩ = some (.int .i64 kd) := ⟨cells_of r3', cells_of H3.nod 0⟩
  go_region_held3 (fun W => (∀ k, W.cell? ⟨w2.heap.size, k, none⟩ = (#[.string (bs r.p), .int .i64 r.id, .int .i64 r.kind, .int .i64 r.mode, .int .i64 0, .int .i64 0, .int .i64 0, .string ⟨#[]⟩, .string ⟨#[]⟩, .string ⟨#[]⟩, .slice none 0 0, .int .i64 r.size, .bool r.made] : Array Value)[k]?) ∧ W.cell? ⟨w.heap.size + 1, 0, none⟩ = some (.int .i64 kd)) (first | assumption | exact h3) (
    (go_at_call 42; refine (KD.out _).mono ?_; rintro e wD ⟨rfl, bD⟩; have HD : A3 w wD _ _ _ := H3.next bD; have rD : wD.heap[w2.heap.size]? = _ := (bD.block _ (by omega)).trans r3'; have lD : w2.heap.size + 1 ≤ wD.heap.size := Nat.le_trans l3' bD.size; have hD : (∀ k, wD.cell? ⟨w2.heap.size, k, none⟩ = (#[.string (bs r.p), .int .i64 r.id, .int .i64 r.kind, .int .i64 r.mode, .int .i64 0, .int .i64 0, .int .i64 0, .string ⟨#[]⟩, .string ⟨#[]⟩, .string ⟨#[]⟩, .slice none 0 0, .int .i64 r.size, .bool r.made] : Array Value)[k]?) ∧ wD.cell? ⟨w.heap.size + 1, 0, none⟩ = some (.int .i64 kd) := ⟨cells_of rD, cells_of HD.nod 0⟩))
  have c3 := cells_of HD.tre
  clear h3 hD
  go_upto_region 9 with (first
    | (go_at_call 43; refine (KP.out _ HD.bel).mono ?_; rintro e w4 ⟨ad2, c2, rfl, R4, C4, N4, b4⟩; have H4 : Hid (A3 w w4 _ _ _) := HD.next b4; have r4 : Hid (w4.heap[w2.heap.size]? = _) := (b4.block _ (by omega)).trans rD; have l4 : w2.heap.size + 1 ≤ w4.heap.size := Nat.le_trans lD b4.size; clear b4))
  have b5 : Below w4.heap.size w4 (w4.alloc (.cells #[.slice ad2 m c2, .int .i64 ny] 26)) := below_box w4 _
  have q5 := heap_alloc_new w4 (.cells #[.slice ad2 m c2, .int .i64 ny] 26)
  have l5 := size_box w4 (.cells #[.slice ad2 m c2, .int .i64 ny] 26)
  generalize w4.alloc _ = w5 at *
  have H5 : Hid (A3 w w5 _ _ _) := A3.next H4.out b5
  have r5 : w5.heap[w2.heap.size]? = _ := (b5.block _ (by omega)).trans r4.out
  have c5 := cells_of r5
  have hw1 : IntKind.i64.wrap (ny + 1) = ny + 1 := by rw [IntKind.wrap_i64]; omega
  have X4 : Hid (w.heap.size + 3 ≤ w4.heap.size) := H4.out.lt
  have Q5 : Hid (w5.heap[w4.heap.size]? = _) := q5
  have b56 : Hid (Below w4.heap.size w4 w5) := b5
  clear c3 b5 H4 r4 q5
  go_upto_region 11 with (go_at_call 42; refine (KD.out _).mono ?_; rintro e wE ⟨rfl, bE⟩; have BE : Hid (Below w4.heap.size w4 wE) := b56.out.trans (bE.mono (by omega)); have HE : Hid (A3 w wE _ _ _) := A3.next H5.out bE; have qE : wE.heap[w4.heap.size]? = _ := (bE.block _ (by omega)).trans Q5.out; clear bE)
  have c6 := cells_of qE
  have f6 := froz_of qE
  clear c5 r5
  go_upto_region 13 with (fail)
  have b6 : Below w4.heap.size wE (wE.setCell ⟨w4.heap.size, 1, none⟩ (.int .i64 (ny + 1))) := (Below.refl w4.heap.size wE).setCell (by show w4.heap.size ≤ w4.heap.size; exact Nat.le_refl _) _
  have q6 : (wE.setCell ⟨w4.heap.size, 1, none⟩ (.int .i64 (ny + 1))).heap[w4.heap.size]? = some (.cells #[.slice ad2 m c2, .int .i64 (ny + 1)] 26 (0, 0)) := by
    rw [setCell_eq_setRow wE w4.heap.size 1 _ 26 (0, 0) _ qE]
    exact setRow_heap _ _ _ _ _ _ qE
  have H6 : Hid (A3 w (wE.setCell ⟨w4.heap.size, 1, none⟩ (.int .i64 (ny + 1))) _ _ _) := ⟨by rw [b6.block _ (by have := X4.out; omega)]; exact HE.out.tre, by rw [b6.block _ (by have := X4.out; omega)]; exact HE.out.nod, by rw [b6.block _ (by have := X4.out; omega)]; exact HE.out.res, HE.out.bel.trans (b6.mono (by have := X4.out; omega)), Nat.le_trans HE.out.lt b6.size⟩
  have R6 : Hid (Rs (wE.setCell ⟨w4.heap.size, 1, none⟩ (.int .i64 (ny + 1))) ad2 L) := (R4.below (BE.out.trans b6))
  generalize wE.setCell _ _ = w6 at *
  clear c6 f6 qE
  have c7 := cells_of q6
  have c8 := cells_of H6.out.nod
  go_wp2_with (go_at_call 44; refine (KT.out _ ad2 c2 R6.out C4 N4).mono ?_; rintro e w7 ⟨gd, c, rfl, R7, G7, C7, b7⟩; have H7 : Hid (A3 w w7 _ _ _) := A3.next H6.out b7; have d3 := cells_of H7.out.res; have g3 := froz_of H7.out.res)
  have lt6 := H6.out.lt
  have e2 := two_set H7.out.res (.slice (some ⟨gd, 0, none⟩) M.length c) (.int .i64 (ny + 1))
  have R8 := R7.far (gd := gd) rfl (w.heap.size + 2) (by omega) (.slice (some ⟨gd, 0, none⟩) M.length c) (.int .i64 (ny + 1))
  have b8 : Below w.heap.size w ((w7.setCell ⟨w.heap.size + 2, 0, none⟩ (.slice (some ⟨gd, 0, none⟩) M.length c)).setCell ⟨w.heap.size + 2, 1, none⟩ (.int .i64 (ny + 1))) := (H7.out.bel.setCell (by show _ ≤ w.heap.size + 2; omega) _).setCell (by show _ ≤ w.heap.size + 2; omega) _
  have hld := run_loadVar_row _ _ _ 26 _ _ _ e2 Tryz.underlying26 rfl (by kernel_rfl)
  exact bodyPost_ret (by rw [results_cell_tmp rfl]; simp [asAddr, hld]) rfl ⟨gd, c, rfl, R8, by omega, C7, b8⟩

end Go.Proofs.YtpgiibpalmhhlaaGreatDoor

namespace Go.Proofs.YtpgiibpalmhhlaaGreatDoor
open Go.RowKit
open Go.Lib hiding intOf
set_option linter.unusedVariables false
set_option linter.unusedSimpArgs false

set_option maxRecDepth 20000 in
set_option maxHeartbeats 4000000 in
theorem add_again (ad : Option Addr) (cap n m : Nat) (nx ny : Int) (s : List UInt8) (kd md sz : Int) (mk : Bool) (w : World) (L M : List Rw) (r : Rw) (hrk : r.kind = 4) (hkd : kd = 4) (hs : s ≠ []) (h0 : 0 ≤ ny) (h1 : ny ≤ 1000000000000)
    (KA : Hid (∀ W, Below w.heap.size w W → Calls Tryz.prog 39 #[.agg #[.slice ad n cap, .int .i64 nx], .string (bs s)] W fun e w' => e = .returned (.tuple #[.agg #[.string (bs r.p), .int .i64 r.id, .int .i64 r.kind, .int .i64 r.mode, .int .i64 0, .int .i64 0, .int .i64 0, .string ⟨#[]⟩, .string ⟨#[]⟩, .string ⟨#[]⟩, .slice none 0 0, .int .i64 r.size, .bool r.made], .bool true]) ∧ Below W.heap.size W w'))
    (KP : Hid (∀ W, Below w.heap.size w W → Calls Tryz.prog 43 #[.agg #[.slice ad n cap, .int .i64 nx], .string (bs s)] W fun e w' => ∃ ad2 c2, e = .returned (.tuple #[.agg #[.slice ad2 m c2, .int .i64 ny], .int .i64 0]) ∧ Rs w' ad2 L ∧ m ≤ c2 ∧ (ad2 = none → c2 = 0) ∧ Below W.heap.size W w'))
    (KT : Hid (∀ W ad2 c2, Rs W ad2 L → m ≤ c2 → (ad2 = none → c2 = 0) → Calls Tryz.prog 44 #[.agg #[.slice ad2 m c2, .int .i64 ny], .agg #[.string (bs s), .int .i64 r.id, .int .i64 kd, .int .i64 md, .int .i64 0, .int .i64 0, .int .i64 0, .string ⟨#[]⟩, .string ⟨#[]⟩, .string ⟨#[]⟩, .slice none 0 0, .int .i64 sz, .bool mk]] W fun e w' => ∃ gd c, e = .returned (.agg #[.slice (some ⟨gd, 0, none⟩) M.length c, .int .i64 ny]) ∧ Rs w' (some ⟨gd, 0, none⟩) M ∧ W.heap.size ≤ gd ∧ M.length ≤ c ∧ Below W.heap.size W w')) :
    Calls Tryz.prog 22 #[.agg #[.slice ad n cap, .int .i64 nx], .string (bs s), .agg #[.int .i64 kd, .int .i64 md, .int .i64 0, .int .i64 0, .int .i64 0, .string ⟨#[]⟩, .string ⟨#[]⟩, .string ⟨#[]⟩, .slice none 0 0, .int .i64 sz, .bool mk]] w fun e w' => ∃ gd c, e = .returned (.tuple #[.agg #[.slice (some ⟨gd, 0, none⟩) M.length c, .int .i64 ny], .int .i64 0]) ∧ Rs w' (some ⟨gd, 0, none⟩) M ∧ w.heap.size ≤ gd ∧ M.length ≤ c ∧ Below w.heap.size w w' := by
  have KD : Hid (∀ W, Calls Tryz.prog 42 #[.agg #[.string (bs r.p), .int .i64 r.id, .int .i64 r.kind, .int .i64 r.mode, .int .i64 0, .int .i64 0, .int .i64 0, .string ⟨#[]⟩, .string ⟨#[]⟩, .string ⟨#[]⟩, .slice none 0 0, .int .i64 r.size, .bool r.made]] W fun e w' => e = .returned (.bool true) ∧ Below W.heap.size W w') := fun W => by
    have := isDir_w r W
    rwa [decide_eq_true hrk] at this
  clear hrk
  subst hkd
  have H0 := A3.mk0 w #[.slice ad n cap, .int .i64 nx] #[.int .i64 4, .int .i64 md, .int .i64 0, .int .i64 0, .int .i64 0, .string ⟨#[]⟩, .string ⟨#[]⟩, .string ⟨#[]⟩, .slice none 0 0, .int .i64 sz, .bool mk] #[.slice none 0 0, .int .i64 0]
  have ht := bs_toList s
  have hE : s.isEmpty = false := by simpa using hs
  go_enter Tryz.func22, Tryz.ntmps22
  go_upto_region 4 with (first
    | (go_at_call 39; refine (KA.out _ H0.bel).mono ?_; rintro e w2 ⟨rfl, b2⟩; have H2 : Hid (A3 w w2 _ _ _) := H0.next b2; clear b2)
    | (refine wpList_store_row rfl 43 _ _ rfl w2.heap.size #[.string (bs r.p), .int .i64 r.id, .int .i64 r.kind, .int .i64 r.mode, .int .i64 0, .int .i64 0, .int .i64 0, .string ⟨#[]⟩, .string ⟨#[]⟩, .string ⟨#[]⟩, .slice none 0 0, .int .i64 r.size, .bool r.made] rfl rfl 43 _ (heap_alloc_new w2 _) (by kernel_rfl) rfl (by simp [Value.oneCell']) ?_))
  have b3 : Below w2.heap.size w2 ((w2.alloc (.cells #[.string ⟨#[]⟩, .int .i64 0, .int .i64 0, .int .i64 0, .int .i64 0, .int .i64 0, .int .i64 0, .string ⟨#[]⟩, .string ⟨#[]⟩, .string ⟨#[]⟩, .slice none 0 0, .int .i64 0, .bool false] 43)).setRow w2.heap.size #[.string (bs r.p), .int .i64 r.id, .int .i64 r.kind, .int .i64 r.mode, .int .i64 0, .int .i64 0, .int .i64 0, .string ⟨#[]⟩, .string ⟨#[]⟩, .string ⟨#[]⟩, .slice none 0 0, .int .i64 r.size, .bool r.made]) := below_setRow (below_box w2 _) (Nat.le_refl _) _
  have r3 := setRow_heap (w2.alloc (.cells #[.string ⟨#[]⟩, .int .i64 0, .int .i64 0, .int .i64 0, .int .i64 0, .int .i64 0, .int .i64 0, .string ⟨#[]⟩, .string ⟨#[]⟩, .string ⟨#[]⟩, .slice none 0 0, .int .i64 0, .bool false] 43)) w2.heap.size _ #[.string (bs r.p), .int .i64 r.id, .int .i64 r.kind, .int .i64 r.mode, .int .i64 0, .int .i64 0, .int .i64 0, .string ⟨#[]⟩, .string ⟨#[]⟩, .string ⟨#[]⟩, .slice none 0 0, .int .i64 r.size, .bool r.made] _ _ (heap_alloc_new w2 _)
  have l3 : w2.heap.size + 1 ≤ ((w2.alloc (.cells #[.string ⟨#[]⟩, .int .i64 0, .int .i64 0, .int .i64 0, .int .i64 0, .int .i64 0, .int .i64 0, .string ⟨#[]⟩, .string ⟨#[]⟩, .string ⟨#[]⟩, .slice none 0 0, .int .i64 0, .bool false] 43)).setRow w2.heap.size #[.string (bs r.p), .int .i64 r.id, .int .i64 r.kind, .int .i64 r.mode, .int .i64 0, .int .i64 0, .int .i64 0, .string ⟨#[]⟩, .string ⟨#[]⟩, .string ⟨#[]⟩, .slice none 0 0, .int .i64 r.size, .bool r.made]).heap.size := by rw [setRow_size, size_box]; exact Nat.le_refl _
  generalize (w2.alloc _).setRow _ _ = w3 at *
  have H3 := (H2.out.next b3).drew
  have r3' : w3.drew.heap[w2.heap.size]? = _ := r3
  have l3' : w2.heap.size + 1 ≤ w3.drew.heap.size := l3
  clear b3 r3 l3
  have h3 : (∀ k, w3.drew.cell? ⟨w2.heap.size, k, none⟩ = (#[.string (bs r.p), .int .i64 r.id, .int .i64 r.kind, .int .i64 r.mode, .int .i64 0, .int .i64 0, .int .i64 0, .string ⟨#[]⟩, .string ⟨#[]⟩, .string ⟨#[]⟩, .slice none 0 0, .int .i64 r.size, .bool r.made] : Array Value)[k]?) ∧ w3.drew.cell? ⟨w.heap.size + 1, 0, none⟩ = some (.int .i64 4) := ⟨cells_of r3', cells_of H3.nod 0⟩
  go_region_held3 (fun W => (∀ k, W.cell? ⟨w2.heap.size, k, none⟩ = (#[.string (bs r.p), .int .i64 r.id, .int .i64 r.kind, .int .i64 r.mode, .int .i64 0, .int .i64 0, .int .i64 0, .string ⟨#[]⟩, .string ⟨#[]⟩, .string ⟨#[]⟩, .slice none 0 0, .int .i64 r.size, .bool r.made] : Array Value)[k]?) ∧ W.cell? ⟨w.heap.size + 1, 0, none⟩ = some (.int .i64 4)) (first | assumption | exact h3) (
    (go_at_call 42; refine (KD.out _).mono ?_; rintro e wD ⟨rfl, bD⟩; have HD : A3 w wD _ _ _ := H3.next bD; have rD : wD.heap[w2.heap.size]? = _ := (bD.block _ (by omega)).trans r3'; have lD : w2.heap.size + 1 ≤ wD.heap.size := Nat.le_trans l3' bD.size; have hD : (∀ k, wD.cell? ⟨w2.heap.size, k, none⟩ = (#[.string (bs r.p), .int .i64 r.id, .int .i64 r.kind, .int .i64 r.mode, .int .i64 0, .int .i64 0, .int .i64 0, .string ⟨#[]⟩, .string ⟨#[]⟩, .string ⟨#[]⟩, .slice none 0 0, .int .i64 r.size, .bool r.made] : Array Value)[k]?) ∧ wD.cell? ⟨w.heap.size + 1, 0, none⟩ = some (.int .i64 4) := ⟨cells_of rD, cells_of HD.nod 0⟩))
  have c3 := cells_of HD.tre
  clear h3 hD
  go_upto_region 9 with (first
    | (go_at_call 43; refine (KP.out _ HD.bel).mono ?_; rintro e w4 ⟨ad2, c2, rfl, R4, C4, N4, b4⟩; have H4 : Hid (A3 w w4 _ _ _) := HD.next b4; have r4 : Hid (w4.heap[w2.heap.size]? = _) := (b4.block _ (by omega)).trans rD; have l4 : w2.heap.size + 1 ≤ w4.heap.size := Nat.le_trans lD b4.size; clear b4))
  have b5 : Below w4.heap.size w4 (w4.alloc (.cells #[.slice ad2 m c2, .int .i64 ny] 26)) := below_box w4 _
  have q5 := heap_alloc_new w4 (.cells #[.slice ad2 m c2, .int .i64 ny] 26)
  have l5 := size_box w4 (.cells #[.slice ad2 m c2, .int .i64 ny] 26)
  generalize w4.alloc _ = w5 at *
  have H5 : Hid (A3 w w5 _ _ _) := A3.next H4.out b5
  have r5 : w5.heap[w2.heap.size]? = _ := (b5.block _ (by omega)).trans r4.out
  have c5 := cells_of r5
  have hw1 : IntKind.i64.wrap (ny + 1) = ny + 1 := by rw [IntKind.wrap_i64]; omega
  have X4 : Hid (w.heap.size + 3 ≤ w4.heap.size) := H4.out.lt
  have Q5 : Hid (w5.heap[w4.heap.size]? = _) := q5
  have b56 : Hid (Below w4.heap.size w4 w5) := b5
  clear c3 b5 H4 r4 q5
  go_upto_region 13 with (go_at_call 42; refine (KD.out _).mono ?_; rintro e wE ⟨rfl, bE⟩; have BE : Hid (Below w4.heap.size w4 wE) := b56.out.trans (bE.mono (by omega)); have HE : Hid (A3 w wE _ _ _) := A3.next H5.out bE; have qE : wE.heap[w4.heap.size]? = _ := (bE.block _ (by omega)).trans Q5.out; clear bE)
  have RE : Hid (Rs wE ad2 L) := R4.below BE.out
  clear c5 r5
  have c7 := cells_of qE
  have c8 := cells_of HE.out.nod
  go_wp2_with (go_at_call 44; refine (KT.out _ ad2 c2 RE.out C4 N4).mono ?_; rintro e w7 ⟨gd, c, rfl, R7, G7, C7, b7⟩; have H7 : Hid (A3 w w7 _ _ _) := A3.next HE.out b7; have d3 := cells_of H7.out.res; have g3 := froz_of H7.out.res)
  have lt6 := HE.out.lt
  have e2 := two_set H7.out.res (.slice (some ⟨gd, 0, none⟩) M.length c) (.int .i64 ny)
  have R8 := R7.far (gd := gd) rfl (w.heap.size + 2) (by omega) (.slice (some ⟨gd, 0, none⟩) M.length c) (.int .i64 ny)
  have b8 : Below w.heap.size w ((w7.setCell ⟨w.heap.size + 2, 0, none⟩ (.slice (some ⟨gd, 0, none⟩) M.length c)).setCell ⟨w.heap.size + 2, 1, none⟩ (.int .i64 ny)) := (H7.out.bel.setCell (by show _ ≤ w.heap.size + 2; omega) _).setCell (by show _ ≤ w.heap.size + 2; omega) _
  have hld := run_loadVar_row _ _ _ 26 _ _ _ e2 Tryz.underlying26 rfl (by kernel_rfl)
  exact bodyPost_ret (by rw [results_cell_tmp rfl]; simp [asAddr, hld]) rfl ⟨gd, c, rfl, R8, by omega, C7, b8⟩

end Go.Proofs.YtpgiibpalmhhlaaGreatDoor

namespace Go.Proofs.YtpgiibpalmhhlaaGreatDoor
open Go.RowKit
open Go.Lib hiding intOf
set_option linter.unusedVariables false
set_option linter.unusedSimpArgs false

set_option maxRecDepth 20000 in
set_option maxHeartbeats 4000000 in
theorem add_dirThere (ad : Option Addr) (cap n m : Nat) (nx : Int) (s : List UInt8) (kd md sz : Int) (mk : Bool) (w : World) (X : Option Addr → Nat → World → World → Prop) (hX : ∀ a c W W' x y, X a c W W' → w.heap.size + 2 < W.heap.size → X a c w ((W'.setCell ⟨w.heap.size + 2, 0, none⟩ x).setCell ⟨w.heap.size + 2, 1, none⟩ y)) (r : Rw) (hrk : r.kind = 4) (hkd : kd ≠ 4) (hs : s ≠ [])
    (KA : Hid (∀ W, Below w.heap.size w W → Calls Tryz.prog 39 #[.agg #[.slice ad n cap, .int .i64 nx], .string (bs s)] W fun e w' => e = .returned (.tuple #[.agg #[.string (bs r.p), .int .i64 r.id, .int .i64 r.kind, .int .i64 r.mode, .int .i64 0, .int .i64 0, .int .i64 0, .string ⟨#[]⟩, .string ⟨#[]⟩, .string ⟨#[]⟩, .slice none 0 0, .int .i64 r.size, .bool r.made], .bool true]) ∧ Below W.heap.size W w'))
    (KT : Hid (∀ W, Below w.heap.size w W → Calls Tryz.prog 41 #[.agg #[.slice ad n cap, .int .i64 nx]] W fun e w' => ∃ a c, e = .returned (.agg #[.slice a m c, .int .i64 nx]) ∧ X a c W w' ∧ Below W.heap.size W w')) :
    Calls Tryz.prog 22 #[.agg #[.slice ad n cap, .int .i64 nx], .string (bs s), .agg #[.int .i64 kd, .int .i64 md, .int .i64 0, .int .i64 0, .int .i64 0, .string ⟨#[]⟩, .string ⟨#[]⟩, .string ⟨#[]⟩, .slice none 0 0, .int .i64 sz, .bool mk]] w fun e w' => ∃ a c, e = .returned (.tuple #[.agg #[.slice a m c, .int .i64 nx], .int .i64 130]) ∧ X a c w w' ∧ Below w.heap.size w w' := by
  have KD : Hid (∀ W, Calls Tryz.prog 42 #[.agg #[.string (bs r.p), .int .i64 r.id, .int .i64 r.kind, .int .i64 r.mode, .int .i64 0, .int .i64 0, .int .i64 0, .string ⟨#[]⟩, .string ⟨#[]⟩, .string ⟨#[]⟩, .slice none 0 0, .int .i64 r.size, .bool r.made]] W fun e w' => e = .returned (.bool true) ∧ Below W.heap.size W w') := fun W => by
    have := isDir_w r W
    rwa [decide_eq_true hrk] at this
  clear hrk
  have hk1 : (kd == 4) = false := by simpa using hkd
  have hk2 : decide (kd = 4) = false := decide_eq_false hkd
  have H0 := A3.mk0 w #[.slice ad n cap, .int .i64 nx] #[.int .i64 kd, .int .i64 md, .int .i64 0, .int .i64 0, .int .i64 0, .string ⟨#[]⟩, .string ⟨#[]⟩, .string ⟨#[]⟩, .slice none 0 0, .int .i64 sz, .bool mk] #[.slice none 0 0, .int .i64 0]
  have ht := bs_toList s
  have hE : s.isEmpty = false := by simpa using hs
  go_enter Tryz.func22, Tryz.ntmps22
  go_upto_region 4 with (first
    | (go_at_call 39; refine (KA.out _ H0.bel).mono ?_; rintro e w2 ⟨rfl, b2⟩; have H2 : Hid (A3 w w2 _ _ _) := H0.next b2; clear b2)
    | (refine wpList_store_row rfl 43 _ _ rfl w2.heap.size #[.string (bs r.p), .int .i64 r.id, .int .i64 r.kind, .int .i64 r.mode, .int .i64 0, .int .i64 0, .int .i64 0, .string ⟨#[]⟩, .string ⟨#[]⟩, .string ⟨#[]⟩, .slice none 0 0, .int .i64 r.size, .bool r.made] rfl rfl 43 _ (heap_alloc_new w2 _) (by kernel_rfl) rfl (by simp [Value.oneCell']) ?_))
  have b3 : Below w2.heap.size w2 ((w2.alloc (.cells #[.string ⟨#[]⟩, .int .i64 0, .int .i64 0, .int .i64 0, .int .i64 0, .int .i64 0, .int .i64 0, .string ⟨#[]⟩, .string ⟨#[]⟩, .string ⟨#[]⟩, .slice none 0 0, .int .i64 0, .bool false] 43)).setRow w2.heap.size #[.string (bs r.p), .int .i64 r.id, .int .i64 r.kind, .int .i64 r.mode, .int .i64 0, .int .i64 0, .int .i64 0, .string ⟨#[]⟩, .string ⟨#[]⟩, .string ⟨#[]⟩, .slice none 0 0, .int .i64 r.size, .bool r.made]) := below_setRow (below_box w2 _) (Nat.le_refl _) _
  have r3 := setRow_heap (w2.alloc (.cells #[.string ⟨#[]⟩, .int .i64 0, .int .i64 0, .int .i64 0, .int .i64 0, .int .i64 0, .int .i64 0, .string ⟨#[]⟩, .string ⟨#[]⟩, .string ⟨#[]⟩, .slice none 0 0, .int .i64 0, .bool false] 43)) w2.heap.size _ #[.string (bs r.p), .int .i64 r.id, .int .i64 r.kind, .int .i64 r.mode, .int .i64 0, .int .i64 0, .int .i64 0, .string ⟨#[]⟩, .string ⟨#[]⟩, .string ⟨#[]⟩, .slice none 0 0, .int .i64 r.size, .bool r.made] _ _ (heap_alloc_new w2 _)
  have l3 : w2.heap.size + 1 ≤ ((w2.alloc (.cells #[.string ⟨#[]⟩, .int .i64 0, .int .i64 0, .int .i64 0, .int .i64 0, .int .i64 0, .int .i64 0, .string ⟨#[]⟩, .string ⟨#[]⟩, .string ⟨#[]⟩, .slice none 0 0, .int .i64 0, .bool false] 43)).setRow w2.heap.size #[.string (bs r.p), .int .i64 r.id, .int .i64 r.kind, .int .i64 r.mode, .int .i64 0, .int .i64 0, .int .i64 0, .string ⟨#[]⟩, .string ⟨#[]⟩, .string ⟨#[]⟩, .slice none 0 0, .int .i64 r.size, .bool r.made]).heap.size := by rw [setRow_size, size_box]; exact Nat.le_refl _
  generalize (w2.alloc _).setRow _ _ = w3 at *
  have H3 := (H2.out.next b3).drew
  have r3' : w3.drew.heap[w2.heap.size]? = _ := r3
  have l3' : w2.heap.size + 1 ≤ w3.drew.heap.size := l3
  clear b3 r3 l3
  have h3 : (∀ k, w3.drew.cell? ⟨w2.heap.size, k, none⟩ = (#[.string (bs r.p), .int .i64 r.id, .int .i64 r.kind, .int .i64 r.mode, .int .i64 0, .int .i64 0, .int .i64 0, .string ⟨#[]⟩, .string ⟨#[]⟩, .string ⟨#[]⟩, .slice none 0 0, .int .i64 r.size, .bool r.made] : Array Value)[k]?) ∧ w3.drew.cell? ⟨w.heap.size + 1, 0, none⟩ = some (.int .i64 kd) := ⟨cells_of r3', cells_of H3.nod 0⟩
  go_region_held3 (fun W => (∀ k, W.cell? ⟨w2.heap.size, k, none⟩ = (#[.string (bs r.p), .int .i64 r.id, .int .i64 r.kind, .int .i64 r.mode, .int .i64 0, .int .i64 0, .int .i64 0, .string ⟨#[]⟩, .string ⟨#[]⟩, .string ⟨#[]⟩, .slice none 0 0, .int .i64 r.size, .bool r.made] : Array Value)[k]?) ∧ W.cell? ⟨w.heap.size + 1, 0, none⟩ = some (.int .i64 kd)) (first | assumption | exact h3) (
    (go_at_call 42; refine (KD.out _).mono ?_; rintro e wD ⟨rfl, bD⟩; have HD : A3 w wD _ _ _ := H3.next bD; have rD : wD.heap[w2.heap.size]? = _ := (bD.block _ (by omega)).trans r3'; have lD : w2.heap.size + 1 ≤ wD.heap.size := Nat.le_trans l3' bD.size; have hD : (∀ k, wD.cell? ⟨w2.heap.size, k, none⟩ = (#[.string (bs r.p), .int .i64 r.id, .int .i64 r.kind, .int .i64 r.mode, .int .i64 0, .int .i64 0, .int .i64 0, .string ⟨#[]⟩, .string ⟨#[]⟩, .string ⟨#[]⟩, .slice none 0 0, .int .i64 r.size, .bool r.made] : Array Value)[k]?) ∧ wD.cell? ⟨w.heap.size + 1, 0, none⟩ = some (.int .i64 kd) := ⟨cells_of rD, cells_of HD.nod 0⟩))
  have c3 := cells_of HD.tre
  clear h3 hD
  go_wp2_with (go_at_call 41; refine (KT.out _ HD.bel).mono ?_; rintro e w7 ⟨a, c, rfl, R7, b7⟩; have H7 : Hid (A3 w w7 _ _ _) := A3.next HD b7; have d3 := cells_of H7.out.res; have g3 := froz_of H7.out.res)
  have lt5 := HD.lt
  have e2 := two_set H7.out.res (.slice a m c) (.int .i64 nx)
  have R8 := hX _ _ _ _ (.slice a m c) (.int .i64 nx) R7 (by omega)
  have b8 : Below w.heap.size w ((w7.setCell ⟨w.heap.size + 2, 0, none⟩ (.slice a m c)).setCell ⟨w.heap.size + 2, 1, none⟩ (.int .i64 nx)) := (H7.out.bel.setCell (by show _ ≤ w.heap.size + 2; omega) _).setCell (by show _ ≤ w.heap.size + 2; omega) _
  have hld := run_loadVar_row _ _ _ 26 _ _ _ e2 Tryz.underlying26 rfl (by kernel_rfl)
  exact bodyPost_ret (by rw [results_cell_tmp rfl]; simp [asAddr, hld]) rfl ⟨a, c, rfl, R8, b8⟩

end Go.Proofs.YtpgiibpalmhhlaaGreatDoor

namespace Go.Proofs.YtpgiibpalmhhlaaGreatDoor
open Go.RowKit
open Go.Lib hiding intOf
set_option linter.unusedVariables false
set_option linter.unusedSimpArgs false

set_option maxRecDepth 20000 in
set_option maxHeartbeats 4000000 in
theorem add_otherThere (ad : Option Addr) (cap n m : Nat) (nx : Int) (s : List UInt8) (kd md sz : Int) (mk : Bool) (w : World) (X : Option Addr → Nat → World → World → Prop) (hX : ∀ a c W W' x y, X a c W W' → w.heap.size + 2 < W.heap.size → X a c w ((W'.setCell ⟨w.heap.size + 2, 0, none⟩ x).setCell ⟨w.heap.size + 2, 1, none⟩ y)) (r : Rw) (hrk : r.kind ≠ 4) (hkd : kd = 4) (hs : s ≠ [])
    (KA : Hid (∀ W, Below w.heap.size w W → Calls Tryz.prog 39 #[.agg #[.slice ad n cap, .int .i64 nx], .string (bs s)] W fun e w' => e = .returned (.tuple #[.agg #[.string (bs r.p), .int .i64 r.id, .int .i64 r.kind, .int .i64 r.mode, .int .i64 0, .int .i64 0, .int .i64 0, .string ⟨#[]⟩, .string ⟨#[]⟩, .string ⟨#[]⟩, .slice none 0 0, .int .i64 r.size, .bool r.made], .bool true]) ∧ Below W.heap.size W w'))
    (KT : Hid (∀ W, Below w.heap.size w W → Calls Tryz.prog 41 #[.agg #[.slice ad n cap, .int .i64 nx]] W fun e w' => ∃ a c, e = .returned (.agg #[.slice a m c, .int .i64 nx]) ∧ X a c W w' ∧ Below W.heap.size W w')) :
    Calls Tryz.prog 22 #[.agg #[.slice ad n cap, .int .i64 nx], .string (bs s), .agg #[.int .i64 kd, .int .i64 md, .int .i64 0, .int .i64 0, .int .i64 0, .string ⟨#[]⟩, .string ⟨#[]⟩, .string ⟨#[]⟩, .slice none 0 0, .int .i64 sz, .bool mk]] w fun e w' => ∃ a c, e = .returned (.tuple #[.agg #[.slice a m c, .int .i64 nx], .int .i64 130]) ∧ X a c w w' ∧ Below w.heap.size w w' := by
  have KD : Hid (∀ W, Calls Tryz.prog 42 #[.agg #[.string (bs r.p), .int .i64 r.id, .int .i64 r.kind, .int .i64 r.mode, .int .i64 0, .int .i64 0, .int .i64 0, .string ⟨#[]⟩, .string ⟨#[]⟩, .string ⟨#[]⟩, .slice none 0 0, .int .i64 r.size, .bool r.made]] W fun e w' => e = .returned (.bool false) ∧ Below W.heap.size W w') := fun W => by
    have := isDir_w r W
    rwa [decide_eq_false hrk] at this
  clear hrk
  subst hkd
  have H0 := A3.mk0 w #[.slice ad n cap, .int .i64 nx] #[.int .i64 4, .int .i64 md, .int .i64 0, .int .i64 0, .int .i64 0, .string ⟨#[]⟩, .string ⟨#[]⟩, .string ⟨#[]⟩, .slice none 0 0, .int .i64 sz, .bool mk] #[.slice none 0 0, .int .i64 0]
  have ht := bs_toList s
  have hE : s.isEmpty = false := by simpa using hs
  go_enter Tryz.func22, Tryz.ntmps22
  go_upto_region 4 with (first
    | (go_at_call 39; refine (KA.out _ H0.bel).mono ?_; rintro e w2 ⟨rfl, b2⟩; have H2 : Hid (A3 w w2 _ _ _) := H0.next b2; clear b2)
    | (refine wpList_store_row rfl 43 _ _ rfl w2.heap.size #[.string (bs r.p), .int .i64 r.id, .int .i64 r.kind, .int .i64 r.mode, .int .i64 0, .int .i64 0, .int .i64 0, .string ⟨#[]⟩, .string ⟨#[]⟩, .string ⟨#[]⟩, .slice none 0 0, .int .i64 r.size, .bool r.made] rfl rfl 43 _ (heap_alloc_new w2 _) (by kernel_rfl) rfl (by simp [Value.oneCell']) ?_))
  have b3 : Below w2.heap.size w2 ((w2.alloc (.cells #[.string ⟨#[]⟩, .int .i64 0, .int .i64 0, .int .i64 0, .int .i64 0, .int .i64 0, .int .i64 0, .string ⟨#[]⟩, .string ⟨#[]⟩, .string ⟨#[]⟩, .slice none 0 0, .int .i64 0, .bool false] 43)).setRow w2.heap.size #[.string (bs r.p), .int .i64 r.id, .int .i64 r.kind, .int .i64 r.mode, .int .i64 0, .int .i64 0, .int .i64 0, .string ⟨#[]⟩, .string ⟨#[]⟩, .string ⟨#[]⟩, .slice none 0 0, .int .i64 r.size, .bool r.made]) := below_setRow (below_box w2 _) (Nat.le_refl _) _
  have r3 := setRow_heap (w2.alloc (.cells #[.string ⟨#[]⟩, .int .i64 0, .int .i64 0, .int .i64 0, .int .i64 0, .int .i64 0, .int .i64 0, .string ⟨#[]⟩, .string ⟨#[]⟩, .string ⟨#[]⟩, .slice none 0 0, .int .i64 0, .bool false] 43)) w2.heap.size _ #[.string (bs r.p), .int .i64 r.id, .int .i64 r.kind, .int .i64 r.mode, .int .i64 0, .int .i64 0, .int .i64 0, .string ⟨#[]⟩, .string ⟨#[]⟩, .string ⟨#[]⟩, .slice none 0 0, .int .i64 r.size, .bool r.made] _ _ (heap_alloc_new w2 _)
  have l3 : w2.heap.size + 1 ≤ ((w2.alloc (.cells #[.string ⟨#[]⟩, .int .i64 0, .int .i64 0, .int .i64 0, .int .i64 0, .int .i64 0, .int .i64 0, .string ⟨#[]⟩, .string ⟨#[]⟩, .string ⟨#[]⟩, .slice none 0 0, .int .i64 0, .bool false] 43)).setRow w2.heap.size #[.string (bs r.p), .int .i64 r.id, .int .i64 r.kind, .int .i64 r.mode, .int .i64 0, .int .i64 0, .int .i64 0, .string ⟨#[]⟩, .string ⟨#[]⟩, .string ⟨#[]⟩, .slice none 0 0, .int .i64 r.size, .bool r.made]).heap.size := by rw [setRow_size, size_box]; exact Nat.le_refl _
  generalize (w2.alloc _).setRow _ _ = w3 at *
  have H3 := (H2.out.next b3).drew
  have r3' : w3.drew.heap[w2.heap.size]? = _ := r3
  have l3' : w2.heap.size + 1 ≤ w3.drew.heap.size := l3
  clear b3 r3 l3
  have h3 : (∀ k, w3.drew.cell? ⟨w2.heap.size, k, none⟩ = (#[.string (bs r.p), .int .i64 r.id, .int .i64 r.kind, .int .i64 r.mode, .int .i64 0, .int .i64 0, .int .i64 0, .string ⟨#[]⟩, .string ⟨#[]⟩, .string ⟨#[]⟩, .slice none 0 0, .int .i64 r.size, .bool r.made] : Array Value)[k]?) ∧ w3.drew.cell? ⟨w.heap.size + 1, 0, none⟩ = some (.int .i64 4) := ⟨cells_of r3', cells_of H3.nod 0⟩
  go_region_held3 (fun W => (∀ k, W.cell? ⟨w2.heap.size, k, none⟩ = (#[.string (bs r.p), .int .i64 r.id, .int .i64 r.kind, .int .i64 r.mode, .int .i64 0, .int .i64 0, .int .i64 0, .string ⟨#[]⟩, .string ⟨#[]⟩, .string ⟨#[]⟩, .slice none 0 0, .int .i64 r.size, .bool r.made] : Array Value)[k]?) ∧ W.cell? ⟨w.heap.size + 1, 0, none⟩ = some (.int .i64 4)) (first | assumption | exact h3) (
    (go_at_call 42; refine (KD.out _).mono ?_; rintro e wD ⟨rfl, bD⟩; have HD : A3 w wD _ _ _ := H3.next bD; have rD : wD.heap[w2.heap.size]? = _ := (bD.block _ (by omega)).trans r3'; have lD : w2.heap.size + 1 ≤ wD.heap.size := Nat.le_trans l3' bD.size; have hD : (∀ k, wD.cell? ⟨w2.heap.size, k, none⟩ = (#[.string (bs r.p), .int .i64 r.id, .int .i64 r.kind, .int .i64 r.mode, .int .i64 0, .int .i64 0, .int .i64 0, .string ⟨#[]⟩, .string ⟨#[]⟩, .string ⟨#[]⟩, .slice none 0 0, .int .i64 r.size, .bool r.made] : Array Value)[k]?) ∧ wD.cell? ⟨w.heap.size + 1, 0, none⟩ = some (.int .i64 4) := ⟨cells_of rD, cells_of HD.nod 0⟩))
  have c3 := cells_of HD.tre
  clear h3 hD
  go_wp2_with (go_at_call 41; refine (KT.out _ HD.bel).mono ?_; rintro e w7 ⟨a, c, rfl, R7, b7⟩; have H7 : Hid (A3 w w7 _ _ _) := A3.next HD b7; have d3 := cells_of H7.out.res; have g3 := froz_of H7.out.res)
  have lt5 := HD.lt
  have e2 := two_set H7.out.res (.slice a m c) (.int .i64 nx)
  have R8 := hX _ _ _ _ (.slice a m c) (.int .i64 nx) R7 (by omega)
  have b8 : Below w.heap.size w ((w7.setCell ⟨w.heap.size + 2, 0, none⟩ (.slice a m c)).setCell ⟨w.heap.size + 2, 1, none⟩ (.int .i64 nx)) := (H7.out.bel.setCell (by show _ ≤ w.heap.size + 2; omega) _).setCell (by show _ ≤ w.heap.size + 2; omega) _
  have hld := run_loadVar_row _ _ _ 26 _ _ _ e2 Tryz.underlying26 rfl (by kernel_rfl)
  exact bodyPost_ret (by rw [results_cell_tmp rfl]; simp [asAddr, hld]) rfl ⟨a, c, rfl, R8, b8⟩

end Go.Proofs.YtpgiibpalmhhlaaGreatDoor

namespace Go.Proofs.YtpgiibpalmhhlaaGreatDoor
open Go.RowKit
open Go.Lib hiding intOf
set_option linter.unusedVariables false
set_option linter.unusedSimpArgs false

/-- what a copy of rows is -/
def Xs (L : List Rw) (a : Option Addr) (c : Nat) (W W' : World) : Prop := (a = none ∧ c = 0 ∧ L = []) ∨ ∃ gd, a = some ⟨gd, 0, none⟩ ∧ W.heap.size ≤ gd ∧ Rs W' a L ∧ L.length ≤ c

theorem Xs.far {L : List Rw} {w : World} {k : Nat} (a : Option Addr) (c : Nat) (W W' : World) (x y : Value) (h : Xs L a c W W') (hk : w.heap.size + k < W.heap.size) : Xs L a c w ((W'.setCell ⟨w.heap.size + k, 0, none⟩ x).setCell ⟨w.heap.size + k, 1, none⟩ y) := by
  rcases h with h | ⟨gd, h1, h2, h3, h4⟩
  · exact .inl h
  · exact .inr ⟨gd, h1, by omega, h3.far h1 _ (by omega) x y, h4⟩

theorem Xs.tm {L : List Rw} {nx : Int} {a : Option Addr} {c : Nat} {W W' : World} (h : Xs L a c W W') : Tm W' (.agg #[.slice a L.length c, .int .i64 nx]) L nx := by
  rcases h with ⟨rfl, rfl, rfl⟩ | ⟨gd, h1, h2, h3, h4⟩
  · exact ⟨none, 0, rfl, .inl rfl, Nat.le_refl _, fun _ => rfl⟩
  · exact ⟨a, c, rfl, h3, h4, fun h => by rw [h1] at h; cases h⟩

theorem same_w (ad : Option Addr) (cap : Nat) (nx : Int) (L : List Rw) (w : World) (hr : Rs w ad L) (hl : L.length ≤ 1000000) :
    Calls Tryz.prog 41 #[.agg #[.slice ad L.length cap, .int .i64 nx]] w fun e w' => ∃ a c, e = .returned (.agg #[.slice a L.length c, .int .i64 nx]) ∧ Xs L a c w w' ∧ Below w.heap.size w w' := by
  cases ad with
  | none =>
    obtain rfl : L = [] := by
      rcases hr with h | ⟨b, o, e, _⟩
      · exact h
      · cases e
    refine (same_nil cap nx w).mono ?_
    rintro e w' ⟨rfl, b⟩
    exact ⟨none, 0, rfl, .inl ⟨rfl, rfl, rfl⟩, b⟩
  | some a =>
    refine (same_some a cap nx L w hr hl).mono ?_
    rintro e w' ⟨gd, c, rfl, h1, h2, h3, h4⟩
    exact ⟨some ⟨gd, 0, none⟩, c, rfl, .inr ⟨gd, rfl, h2, h1, h3⟩, h4⟩

/-- a node, as far as the laws lay one -/
def nodeV (kd md sz : Int) (mk : Bool) : Value := .agg #[.int .i64 kd, .int .i64 md, .int .i64 0, .int .i64 0, .int .i64 0, .string ⟨#[]⟩, .string ⟨#[]⟩, .string ⟨#[]⟩, .slice none 0 0, .int .i64 sz, .bool mk]

theorem add_w (v : Value) (nx : Int) (L : List Rw) (s : List UInt8) (kd md sz : Int) (mk : Bool) (w : World) (hS : Sd L nx) (hv : Tm w v L nx) (hl : L.length ≤ 900000) (hnx : nx ≤ 900000000000) (hsl : s.length ≤ 1000) (hsc : s = [] ∨ Cp s) :
    Calls Tryz.prog 22 #[v, .string (bs s), nodeV kd md sz mk] w fun e w' => ∃ v', e = .returned (.tuple #[v', .int .i64 (addP L nx s kd md sz mk).2.2]) ∧ Tm w' v' (addP L nx s kd md sz mk).1 (addP L nx s kd md sz mk).2.1 ∧ Below w.heap.size w w' := by
  obtain ⟨ad, cap, rfl, hr, hcap, hnil⟩ := hv
  have hnn := hS.nn
  have hp : ∀ r ∈ L, r.p.length ≤ 4611686018427387903 := fun r hr => by have := (hS.ok r hr).1; omega
  have hml := md_length L (s := s)
  have KS : ∀ W, Below w.heap.size w W → Calls Tryz.prog 41 #[.agg #[.slice ad L.length cap, .int .i64 nx]] W fun e w' => ∃ a c, e = .returned (.agg #[.slice a L.length c, .int .i64 nx]) ∧ Xs L a c W w' ∧ Below W.heap.size W w' := fun W hb => same_w ad cap nx L W (hr.below hb) (by omega)
  have KA : ∀ W, Below w.heap.size w W → Calls Tryz.prog 39 #[.agg #[.slice ad L.length cap, .int .i64 nx], .string (bs s)] W fun e w' => e = .returned (.tuple #[.agg (atR L s).cs.toArray, .bool (fd L s)]) ∧ Below W.heap.size W w' := fun W hb => at_w ad cap nx L s W hS.srt (hr.below hb) (by omega) hp (by omega)
  have fin : ∀ (L' : List Rw) (ny : Int) (code : Int) (w' : World) (gd c : Nat), Rs w' (some ⟨gd, 0, none⟩) L' → L'.length ≤ c → Tm w' (.agg #[.slice (some ⟨gd, 0, none⟩) L'.length c, .int .i64 ny]) L' ny := fun L' ny code w' gd c h1 h2 => ⟨_, c, rfl, h1, h2, fun h => by cases h⟩
  unfold nodeV addP
  by_cases e0 : s = []
  · rw [if_pos e0]
    subst e0
    refine (add_root ad cap L.length L.length nx kd md sz mk w (Xs L) (fun a c W W' x y h hk => h.far a c W W' x y hk) KS).mono ?_
    rintro e w' ⟨a, c, rfl, hx, hb⟩
    exact ⟨_, rfl, hx.tm, hb⟩
  · have hc : Cp s := hsc.resolve_left e0
    rw [if_neg e0]
    by_cases hf : fd L s = true
    · rw [if_pos hf]
      rw [hf] at KA
      have hthere := hS.there hf
      have KP : ∀ W, Below w.heap.size w W → Calls Tryz.prog 43 #[.agg #[.slice ad L.length cap, .int .i64 nx], .string (bs s)] W fun e w' => ∃ ad2 c2, e = .returned (.tuple #[.agg #[.slice ad2 L.length c2, .int .i64 nx], .int .i64 0]) ∧ Rs w' ad2 L ∧ L.length ≤ c2 ∧ (ad2 = none → c2 = 0) ∧ Below W.heap.size W w' := fun W hb => by
        have := wp_made ad cap nx L s W hS.srt (hr.below hb) (by omega) hcap hnil hp e0 hsl ⟨hnn, by omega⟩ hthere.2
        rw [wpR_nil hthere.1, hthere.1] at this
        have ez : nx + (([] : List (List UInt8)).length : Int) = nx := by simp
        rw [ez] at this
        exact this
      by_cases c1 : decide ((atR L s).kind = 4) ≠ decide (kd = 4)
      · rw [if_pos c1]
        by_cases c2 : (atR L s).kind = 4
        · have c3 : kd ≠ 4 := fun e => c1 (by rw [decide_eq_true c2, decide_eq_true e])
          refine (add_dirThere ad cap L.length L.length nx s kd md sz mk w (Xs L) (fun a c W W' x y h hk => h.far a c W W' x y hk) (atR L s) c2 c3 e0 KA KS).mono ?_
          rintro e w' ⟨a, c, rfl, hx, hb⟩
          exact ⟨_, rfl, hx.tm, hb⟩
        · have c3 : kd = 4 := Classical.byContradiction fun e => c1 (by rw [decide_eq_false c2, decide_eq_false e])
          refine (add_otherThere ad cap L.length L.length nx s kd md sz mk w (Xs L) (fun a c W W' x y h hk => h.far a c W W' x y hk) (atR L s) c2 c3 e0 KA KS).mono ?_
          rintro e w' ⟨a, c, rfl, hx, hb⟩
          exact ⟨_, rfl, hx.tm, hb⟩
      · rw [if_neg c1]
        have c2 : (atR L s).kind = 4 ↔ kd = 4 := by
          have : decide ((atR L s).kind = 4) = decide (kd = 4) := Classical.not_not.1 c1
          simpa using this
        by_cases c3 : kd = 4
        · rw [if_pos c3]
          refine (add_again ad cap L.length L.length nx nx s kd md sz mk w L (putL L ⟨s, (atR L s).id, kd, md, sz, mk⟩) (atR L s) (c2.2 c3) c3 e0 hnn (by omega) KA KP (fun W ad2 c2 h1 h2 h3 => put_w ad2 c2 nx L ⟨s, (atR L s).id, kd, md, sz, mk⟩ W hS.srt h1 (by omega) h2 h3 hp (by show s.length ≤ _; omega))).mono ?_
          rintro e w' ⟨gd, c, rfl, h1, h2, h3, h4⟩
          exact ⟨_, rfl, fin _ _ 0 _ _ _ h1 h3, h4⟩
        · rw [if_neg c3]
          refine (add_over ad cap L.length L.length nx nx s kd md sz mk w L (putL L ⟨s, nx, kd, md, sz, mk⟩) (atR L s) (fun e => c3 (c2.1 e)) c3 e0 hnn (by omega) KA KP (fun W ad2 c2 h1 h2 h3 => put_w ad2 c2 (nx + 1) L ⟨s, nx, kd, md, sz, mk⟩ W hS.srt h1 (by omega) h2 h3 hp (by show s.length ≤ _; omega))).mono ?_
          rintro e w' ⟨gd, c, rfl, h1, h2, h3, h4⟩
          exact ⟨_, rfl, fin _ _ 0 _ _ _ h1 h3, h4⟩
    · have hf : fd L s = false := by simpa using hf
      have ha : atR L s = zr := by unfold atR; rw [hf]; rfl
      rw [ha, hf] at KA
      rw [hf, if_neg (by simp)]
      by_cases hcl : cls L s = true
      · rw [if_pos hcl]
        refine (add_clash ad cap L.length L.length nx s kd md sz mk w (Xs L) (fun a c W W' x y h hk => h.far a c W W' x y hk) e0 KA (fun W hb => wp_clash ad cap nx L s W hS.srt (hr.below hb) (by omega) hp e0 hsl hcl) KS).mono ?_
        rintro e w' ⟨a, c, rfl, hx, hb⟩
        exact ⟨_, rfl, hx.tm, hb⟩
      · have hcl : cls L s = false := by simpa using hcl
        rw [hcl, if_neg (by simp)]
        obtain ⟨hw, hu⟩ := hS.wp hc hsl hcl
        have hp2 : ∀ r ∈ wpR L nx s, r.p.length ≤ 4611686018427387903 := fun r hr => by have := (hw.ok r hr).1; omega
        have hl2 : (wpR L nx s).length ≤ 1000000 := by rw [wpR_length]; omega
        refine (add_new ad cap L.length (wpR L nx s).length nx (nx + ((mdL L s).length : Int)) s kd md sz mk w (wpR L nx s) (putL (wpR L nx s) ⟨s, nx + ((mdL L s).length : Int), kd, md, sz, mk⟩) e0 hw.nn (by omega) KA (fun W hb => wp_made ad cap nx L s W hS.srt (hr.below hb) (by omega) hcap hnil hp e0 hsl ⟨hnn, by omega⟩ hcl) (fun W ad2 c2 h1 h2 h3 => put_w ad2 c2 (nx + ((mdL L s).length : Int) + 1) (wpR L nx s) ⟨s, nx + ((mdL L s).length : Int), kd, md, sz, mk⟩ W hw.srt h1 hl2 h2 h3 hp2 (by show s.length ≤ _; omega))).mono ?_
        rintro e w' ⟨gd, c, rfl, h1, h2, h3, h4⟩
        exact ⟨_, rfl, fin _ _ 0 _ _ _ h1 h3, h4⟩

end Go.Proofs.YtpgiibpalmhhlaaGreatDoor

