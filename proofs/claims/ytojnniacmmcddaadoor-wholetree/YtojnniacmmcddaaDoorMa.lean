/-
  Texts in one: Aw, Aw2, Walk, Res.
-/
import Derived.Test.YtojnniacmmcddaaDoorFns
import Derived.Deep.AppendSrc
import Derived.Deep.Upon
import Derived.Deep.LoopGhost
import Derived.Deep.RegionHeld3
namespace Go.Proofs.YtojnniacmmcddaaDoor
open Go.RowKit
open Go.Lib hiding intOf
set_option linter.unusedVariables false
set_option linter.unusedSimpArgs false

/-- strings at the beginning of a block of one's own, of which so many cells may be written -/
def Aw (w : World) (B : Nat) (ad : Option Addr) (c : Nat) (ps : List (List UInt8)) : Prop :=
  (ad = none ∧ ps = [] ∧ c = 0) ∨ ∃ g, ad = some ⟨g, 0, none⟩ ∧ B ≤ g ∧ g < w.heap.size ∧ ps.length ≤ c ∧ c ≤ 9223372036854775807 ∧
    (∀ i, i < c → (w.cell? ⟨g, i, none⟩).isSome = true ∧ w.frozen? ⟨g, i, none⟩ = false) ∧ ∀ i x, ps[i]? = some x → w.cell? ⟨g, i, none⟩ = some (.string (bs x))

theorem Aw.sl {w : World} {B c : Nat} {ad : Option Addr} {ps : List (List UInt8)} (h : Aw w B ad c ps) : Sl w ad ps := by
  rcases h with ⟨_, h, _⟩ | ⟨g, h1, _, h3, _, _, _, h7⟩
  · exact .inl h
  · exact .inr ⟨g, 0, h1, h3, fun i x hx => by rw [Nat.zero_add]; exact h7 i x hx⟩

theorem Aw.le {w : World} {B c : Nat} {ad : Option Addr} {ps : List (List UInt8)} (h : Aw w B ad c ps) : ps.length ≤ c ∧ c ≤ 9223372036854775807 := by
  rcases h with ⟨_, h, h0⟩ | ⟨g, _, _, _, h4, h5, _⟩
  · subst h h0; simp
  · exact ⟨h4, h5⟩

theorem Aw.take {w : World} {B c : Nat} {ad : Option Addr} {ps : List (List UInt8)} (h : Aw w B ad c ps) (k : Nat) : Aw w B ad c (ps.take k) := by
  rcases h with ⟨h1, h2, h3⟩ | ⟨g, h1, h2, h3, h4, h5, h6, h7⟩
  · exact .inl ⟨h1, by rw [h2]; simp, h3⟩
  · refine .inr ⟨g, h1, h2, h3, by rw [List.length_take]; omega, h5, h6, fun i x hx => h7 i x ?_⟩
    rw [List.getElem?_take] at hx
    split at hx
    · exact hx
    · simp at hx

theorem Aw.below {w w' : World} {B c : Nat} {ad : Option Addr} {ps : List (List UInt8)} (h : Aw w B ad c ps) (hb : Below w.heap.size w w') : Aw w' B ad c ps := by
  rcases h with h | ⟨g, h1, h2, h3, h4, h5, h6, h7⟩
  · exact .inl h
  · refine .inr ⟨g, h1, h2, Nat.lt_of_lt_of_le h3 hb.size, h4, h5, fun i hi => ?_, fun i x hx => (hb.cell (p := ⟨g, i, none⟩) h3).trans (h7 i x hx)⟩
    rw [hb.cell (p := ⟨g, i, none⟩) h3, hb.frozen (p := ⟨g, i, none⟩) h3]
    exact h6 i hi

theorem wpList_append_run {P : Program} {w w' : World} {ops : Array Oper} {rest : List Oper} {o : Oper} {a : Act} {Q : Exit → Act → World → Prop} (hgd : o.guard = none) (s x : Operand) (t tx : TypeId)
    (ho : o.op = Op.call { callee := Callee.builtin Builtin.append, args := #[s, x], argTypes := #[t, tx] }) (sv xv v' : Value) (hs : a.eval s = sv) (hx : a.eval x = xv)
    (hrun : (Builtin.append_ #[t, tx] o.type #[sv, xv]).run P w = .ok v' w') (hK : wpList P ops Q rest (a.put o.dst v') w') : wpList P ops Q (o :: rest) a w := by
  refine wpList_plain hgd fun K hK' => ?_
  unfold Oper.wp
  simp [execOp, ho, resolve, invoke, builtin, hs, hx, hrun, Result.andThen]
  exact hK' _ _ hK

theorem add_at (b off j : Nat) : (⟨b, off, none⟩ : Addr).add j = ⟨b, off + j, none⟩ := by
  unfold Addr.add
  by_cases h : j = 0
  · subst h; rfl
  · simp [h]

theorem strs_one (ps : List (List UInt8)) : ∀ u ∈ strs ps, u.oneCell' = true := by
  intro u hu
  obtain ⟨x, _, rfl⟩ := List.mem_map.1 hu
  rfl

theorem strs_back {ps : List (List UInt8)} {j : Nat} {u : Value} (h : (strs ps)[j]? = some u) : ∃ x, ps[j]? = some x ∧ u = .string (bs x) := by
  unfold strs at h
  rw [List.getElem?_map] at h
  obtain ⟨x, hx, rfl⟩ := Option.map_eq_some_iff.1 h
  exact ⟨x, hx, rfl⟩

theorem Sl.src {w : World} {ad : Option Addr} {ps : List (List UInt8)} (h : Sl w ad ps) (c : Nat) (hn : ad = none → c = c) : Src Tryd.prog 1 23 (.slice ad ps.length c) ps.length (strs ps) w := by
  rcases h with rfl | ⟨b, o, rfl, h2, h3⟩
  · cases ad with
    | none => exact Src.ofNil w Tryd.underlying23 c
    | some a => exact Src.ofSlice w Tryd.underlying23 a 0 c [] rfl (fun j u hj => by simp at hj) (fun u hu => by simp at hu)
  · exact Src.ofSlice w Tryd.underlying23 ⟨b, o, none⟩ ps.length c (strs ps) (by rw [strs_length]; omega) (fun j u hj => by
      obtain ⟨x, hx, rfl⟩ := strs_back hj
      rw [add_at]; exact h3 j x hx) (strs_one ps)

theorem cap_le (w : World) (n c : Nat) (e : TypeId) (hn : n ≤ 100000) : n ≤ grownCap w n c e ∧ grownCap w n c e ≤ 9223372036854775807 :=
  ⟨grownCap_ge w n c e, grownCap_le_maxLen w n c e (by unfold maxLen; omega)⟩

/-- a new row of strings, with room behind them -/
theorem Aw.fresh (w : World) (ps : List (List UInt8)) (cap : Nat) (h1 : ps.length ≤ cap) (h2 : cap ≤ 9223372036854775807) :
    Aw (w.alloc (.cells ((strs ps).toArray ++ Builtin.zeroCells (Value.string ⟨#[]⟩).cells (cap - ps.length)) 9)) w.heap.size (some ⟨w.heap.size, 0, none⟩) cap ps := by
  have hsz : ((strs ps).toArray ++ Builtin.zeroCells (Value.string ⟨#[]⟩).cells (cap - ps.length)).size = cap := by
    rw [Array.size_append, size_zeroCells]
    simp [strs_length, Value.cells]
    omega
  refine .inr ⟨w.heap.size, rfl, Nat.le_refl _, by simp, h1, h2, fun i hi => ⟨?_, ?_⟩, fun i x hx => ?_⟩
  · have : i < ((strs ps).toArray ++ Builtin.zeroCells (Value.string ⟨#[]⟩).cells (cap - ps.length)).size := by rw [hsz]; exact hi
    simp only [World.cell?_alloc_new]
    rw [Array.getElem?_eq_getElem this]
    rfl
  · simp
  · have hl : i < ps.length := (List.getElem?_eq_some_iff.1 hx).1
    simp only [World.cell?_alloc_new]
    rw [Array.getElem?_append_left (by simpa [strs_length] using hl)]
    simpa using strs_get ps i x hx

end Go.Proofs.YtojnniacmmcddaaDoor

namespace Go.Proofs.YtojnniacmmcddaaDoor
open Go.RowKit
open Go.Lib hiding intOf
set_option linter.unusedVariables false
set_option linter.unusedSimpArgs false

theorem fits16 (n c : Nat) (h : c < n) (hn : n ≤ 100000) (i : TypeInfo) (hb : i.bytes = 16) : Builtin.nextslicecap n c * i.bytes ≤ 281474976710656 := by
  rw [hb]
  exact growslice_fits h (by omega)

theorem cell_isSome {w : World} {B c : Nat} {g : Nat} (h6 : ∀ i, i < c → (w.cell? ⟨g, i, none⟩).isSome = true ∧ w.frozen? ⟨g, i, none⟩ = false) (k : Nat) (hk : k < c) : ∃ u, w.cell? ⟨g, k, none⟩ = some u := Option.isSome_iff_exists.1 (h6 k hk).1

/-- one string more: in its place, or all of them in a new one -/
theorem append_one {w : World} (B gw n : Nat) (ad : Option Addr) (c : Nat) (ps : List (List UInt8)) (h : Aw w B ad c ps) (hsep : ∀ g, ad = some ⟨g, 0, none⟩ → g = gw → c ≤ n) (hgw : gw < w.heap.size)
    (xa : Addr) (x : List UInt8) (hx : w.cell? xa = some (.string (bs x))) (hB : B ≤ w.heap.size) (hlen : ps.length + 1 ≤ 100000) (ty : TypeId) :
    ∃ ad' c' w', (Builtin.append_ #[23, 23] ty #[.slice ad ps.length c, .slice (some xa) 1 1]).run Tryd.prog w = .ok (.slice ad' (ps.length + 1) c') w' ∧
      Aw w' B ad' c' (ps ++ [x]) ∧ (∀ g, ad' = some ⟨g, 0, none⟩ → g = gw → c' ≤ n) ∧ (∀ o, n ≤ o → w'.cell? ⟨gw, o, none⟩ = w.cell? ⟨gw, o, none⟩) ∧ Below B w w' := by
  obtain ⟨i, hi, hz0, hz1, hz2⟩ := info_parts_str
  have hsrc : Src Tryd.prog 1 23 (.slice (some xa) 1 1) 1 [.string (bs x)] w := Src.ofSlice w Tryd.underlying23 xa 1 1 _ rfl (fun j u hj => by
    match j, hj with
    | 0, hj => cases hj; simpa [Addr.add] using hx
    | j + 1, hj => simp at hj) (fun u hu => by simp at hu; subst hu; rfl)
  by_cases hroom : ps.length + 1 ≤ c
  · rcases h with ⟨_, _, h0⟩ | ⟨g, h1, h2, h3, h4, h5, h6, h7⟩
    · omega
    · subst h1
      have hrun := run_append_room_src (P := Tryd.prog) (w := w) 23 23 ty 9 i Tryd.underlying23 hi g 0 ps.length c (.slice (some xa) 1 1) 1 [.string (bs x)] (by rw [hz1]; exact hsrc) hroom
        (fun j hj => by simp at hj; subst hj; rw [hz1, Nat.zero_add, Nat.mul_one, Nat.add_zero]; exact (h6 _ (by omega)).1)
        (fun j hj => by simp at hj; subst hj; rw [hz1, Nat.zero_add, Nat.mul_one, Nat.add_zero]; exact (h6 _ (by omega)).2)
      rw [hz1, Nat.zero_add, Nat.mul_one] at hrun
      refine ⟨some ⟨g, 0, none⟩, c, _, hrun, ?_, hsep, ?_, ?_⟩
      · show Aw (w.setCell ⟨g, ps.length, none⟩ (.string (bs x))) B _ c _
        obtain ⟨u, hu⟩ := Option.isSome_iff_exists.1 (h6 ps.length (by omega)).1
        refine .inr ⟨g, rfl, h2, by simpa [World.setCell] using h3, by simp; omega, h5, fun k hk => ⟨?_, ?_⟩, fun k y hy => ?_⟩
        · by_cases e : k = ps.length
          · subst e; rw [World.cell?_setCell_same _ _ _ hu]; rfl
          · rw [World.cell?_setCell_other _ _ _ _ (by intro e'; injection e' with _ e'; exact e e'.symm)]; exact (h6 k hk).1
        · rw [World.frozen?_setCell]; exact (h6 k hk).2
        · by_cases e : k = ps.length
          · subst e
            rw [List.getElem?_append_right (Nat.le_refl _), Nat.sub_self] at hy
            simp at hy
            subst hy
            exact World.cell?_setCell_same _ _ _ hu
          · rw [World.cell?_setCell_other _ _ _ _ (by intro e'; injection e' with _ e'; exact e e'.symm)]
            have hlt : k < ps.length := by
              have := (List.getElem?_eq_some_iff.1 hy).1
              simp at this
              omega
            rw [List.getElem?_append_left hlt] at hy
            exact h7 k y hy
      · intro o ho
        show (w.setCell ⟨g, ps.length, none⟩ (.string (bs x))).cell? ⟨gw, o, none⟩ = _
        refine World.cell?_setCell_other _ _ _ _ ?_
        intro e
        injection e with e1 e2
        have := hsep g rfl e1
        omega
      · exact (Below.refl _ _).setCell (p := ⟨g, ps.length, none⟩) h2 _
  · have hle := h.le
    have hg : c < ps.length + 1 := by omega
    have hold : (Builtin.firstCells i.size ps.length (.slice ad ps.length c)).run Tryd.prog w.drew = .ok (strs ps).toArray w.drew := by
      have := (h.sl.src c (fun _ => rfl)).cellsD
      rwa [← hz1] at this
    have hrun := run_append_grow_src (P := Tryd.prog) (w := w) 23 23 ty 9 i (.string ⟨#[]⟩) Tryd.underlying23 hi hz0 ad ps.length c (strs ps) hold (.slice (some xa) 1 1) 1 [.string (bs x)] (by rw [hz1]; exact hsrc) hg (by omega) (fits16 _ _ hg hlen i hz2)
    rw [strs_snoc] at hrun
    obtain ⟨k1, k2⟩ := cap_le w (ps.length + 1) c 9 hlen
    have hfr := Aw.fresh w.drew (ps ++ [x]) (grownCap w (ps.length + 1) c 9) (by simpa using k1) k2
    rw [List.length_append] at hfr
    refine ⟨some ⟨w.heap.size, 0, none⟩, _, _, hrun, ?_, ?_, ?_, ?_⟩
    · rcases hfr with ⟨h, _⟩ | ⟨g, a1, a2, a3, a4⟩
      · cases h
      · refine .inr ⟨g, a1, Nat.le_trans hB a2, a3, a4⟩
    · intro g e e2
      injection e with e
      injection e with e
      omega
    · intro o ho
      exact (((Below.refl w.heap.size w).drew).alloc (Nat.le_refl _) _).cell (p := ⟨gw, o, none⟩) hgw
    · exact ((Below.refl B w).drew).alloc hB _

/-- one list behind another one that has no room: a new one -/
theorem append_all {w : World} (ad ad2 : Option Addr) (c c2 : Nat) (ps qs : List (List UInt8)) (h1 : Sl w ad ps) (h2 : Sl w ad2 qs) (hg : c < ps.length + qs.length) (hlen : ps.length + qs.length ≤ 100000) (ty : TypeId) :
    ∃ c' w', (Builtin.append_ #[23, 23] ty #[.slice ad ps.length c, .slice ad2 qs.length c2]).run Tryd.prog w = .ok (.slice (some ⟨w.heap.size, 0, none⟩) (ps.length + qs.length) c') w' ∧
      Aw w' w.heap.size (some ⟨w.heap.size, 0, none⟩) c' (ps ++ qs) ∧ Below w.heap.size w w' := by
  obtain ⟨i, hi, hz0, hz1, hz2⟩ := info_parts_str
  have hold : (Builtin.firstCells i.size ps.length (.slice ad ps.length c)).run Tryd.prog w.drew = .ok (strs ps).toArray w.drew := by
    have := (h1.src c (fun _ => rfl)).cellsD
    rwa [← hz1] at this
  have hrun := run_append_grow_src (P := Tryd.prog) (w := w) 23 23 ty 9 i (.string ⟨#[]⟩) Tryd.underlying23 hi hz0 ad ps.length c (strs ps) hold (.slice ad2 qs.length c2) qs.length (strs qs) (by rw [hz1]; exact h2.src c2 (fun _ => rfl)) hg (by omega) (fits16 _ _ hg hlen i hz2)
  have e : strs ps ++ strs qs = strs (ps ++ qs) := by simp [strs]
  rw [e] at hrun
  obtain ⟨k1, k2⟩ := cap_le w (ps.length + qs.length) c 9 hlen
  have hfr := Aw.fresh w.drew (ps ++ qs) (grownCap w (ps.length + qs.length) c 9) (by simpa using k1) k2
  rw [List.length_append] at hfr
  exact ⟨_, _, hrun, hfr, ((Below.refl _ w).drew).alloc (Nat.le_refl _) _⟩

end Go.Proofs.YtojnniacmmcddaaDoor

namespace Go.Proofs.YtojnniacmmcddaaDoor
open Go.RowKit
open Go.Lib hiding intOf
set_option linter.unusedVariables false
set_option linter.unusedSimpArgs false

theorem stp_skip (a r : List (List UInt8)) (p : List UInt8) (h : keep p = false) : stp a (p :: r) = stp a r := by simp [stp, h]
theorem stp_out (r : List (List UInt8)) : stp [] ([46, 46] :: r) = ([], 110) := by simp [stp, keep]
theorem stp_ups (a r : List (List UInt8)) (h : a ≠ []) : stp a ([46, 46] :: r) = stp a.dropLast r := by simp [stp, keep, h]
theorem stp_long (a r : List (List UInt8)) (p : List UInt8) (h : keep p = true) (h2 : p ≠ [46, 46]) (h3 : 255 < p.length) : stp a (p :: r) = ([], 2) := by simp [stp, h, h2, h3]
theorem stp_into (a r : List (List UInt8)) (p : List UInt8) (h : keep p = true) (h2 : p ≠ [46, 46]) (h3 : ¬ 255 < p.length) : stp a (p :: r) = stp (a ++ [p]) r := by
  simp [stp, h, h2, h3]

set_option maxRecDepth 20000 in
set_option maxHeartbeats 4000000 in
theorem walk_w (B gw n : Nat) (ad : Option Addr) (c : Nat) (ps : List (List UInt8)) (S : List (List UInt8)) (C : Nat) (w : World) (h : Aw w B ad c ps) (hsep : ∀ g, ad = some ⟨g, 0, none⟩ → g = gw → c ≤ n)
    (hS : ∀ i x, S[i]? = some x → w.cell? ⟨gw, n + i, none⟩ = some (.string (bs x))) (hgw : gw < w.heap.size) (hB : B ≤ w.heap.size) (hSl : S.length ≤ 5000) (hC : S.length ≤ C) (hC2 : C ≤ 9223372036854775807) (hpl : ps.length ≤ 5000) :
    Calls Tryd.prog 42 #[.slice ad ps.length c, .slice (some ⟨gw, n, none⟩) S.length C] w fun e w' => ∃ ad' c' len', e = .returned (.tuple #[.slice ad' len' c', .int .i64 (stp ps S).2]) ∧ ((stp ps S).2 = 0 → len' = (stp ps S).1.length ∧ len' ≤ c' ∧ c' ≤ 9223372036854775807 ∧ Sl w' ad' (stp ps S).1) ∧ Below B w w' := by
  have HS : Hid (∀ W : World, (∀ o, n ≤ o → W.cell? ⟨gw, o, none⟩ = w.cell? ⟨gw, o, none⟩) → ∀ i x, S[i]? = some x → W.cell? ⟨gw, n + i, none⟩ = some (.string (bs x))) := fun W hW i x hx => (hW _ (by omega)).trans (hS i x hx)
  have HA : Hid (Aw w B ad c ps) := h
  have HSp : Hid (∀ g, ad = some ⟨g, 0, none⟩ → g = gw → c ≤ n) := hsep
  clear hS h hsep
  generalize hNN : S.length = N at *
  have HN : Hid (S.length = N) := hNN
  clear hNN
  go_enter Tryd.func42, Tryd.ntmps42
  go_wp2_with fail
  go_step3
  go_wp2_with fail
  go_step3
  go_wp2_with fail
  go_loopg [0, 6, 11] N (fun g t0 t6 t11 wr => ∃ (i : Nat) (ad : Option Addr) (c : Nat) (qs : List (List UInt8)), i + g = N ∧ t11 = .int .i64 i ∧ t6 = .int .i64 0 ∧ t0 = .slice ad qs.length c ∧ Hid (Aw wr B ad c qs) ∧ Hid (∀ g, ad = some ⟨g, 0, none⟩ → g = gw → c ≤ n) ∧ Hid (∀ o, n ≤ o → wr.cell? ⟨gw, o, none⟩ = w.cell? ⟨gw, o, none⟩) ∧ Below B w wr ∧ qs.length ≤ 5000 + i ∧ Hid (stp ps S = stp qs (S.drop i)))
  case atStart => exact ⟨0, ad, c, ps, by omega, rfl, rfl, rfl, HA, HSp, hid (fun o _ => rfl), Below.refl _ _, by omega, hid (by simp)⟩
  case round =>
    clear HA HSp
    obtain ⟨i, ad, c, qs, hig, rfl, rfl, rfl, HA, HSp, HK, bb, hql, HD⟩ := hrel
    have hwr : w.heap.size ≤ wr.heap.size := bb.size
    obtain ⟨hqc, hcm⟩ := HA.out.le
    by_cases hlt : i < N
    · have l1 : i < S.length := by rw [HN.out]; exact hlt
      obtain ⟨x, hx⟩ : ∃ x, S[i]? = some x := ⟨S[i], List.getElem?_eq_getElem _⟩
      have hcell := HS.out wr HK.out i x hx
      have hD := HD.out
      rw [badOf_step S i x hx] at hD
      have tx := bs_toList x
      have zx := bs_size x
      clear hx l1
      by_cases k : keep x = true
      · have kk : x ≠ [] ∧ x ≠ [46] := by simpa [keep] using k
        have hE : x.isEmpty = false := by simpa using kk.1
        have hDt : (x == [46]) = false := by simpa using kk.2
        by_cases d : x = [46, 46]
        · have hDD : (x == [46, 46]) = true := by simpa using d
          subst d
          by_cases hq0 : qs = []
          · subst hq0
            rw [stp_out] at hD
            have HF : Hid ((stp ps S).2 = 110) := hid (by rw [hD])
            rw [List.length_nil] at *
            clear hD k kk HD
            go_wp2_with fail
            try simp only [Exit.noGoto, Exit.inBlock, Exit.then]
            go_ret2
            exact ⟨_, _, _, by rw [HF.out]; rfl, fun h => by rw [HF.out] at h; exact absurd h (by decide), bb⟩
          · rw [stp_ups _ _ hq0] at hD
            have hpos : 1 ≤ qs.length := List.length_pos_iff.2 hq0
            have hdl : qs.dropLast.length = qs.length - 1 := List.length_dropLast
            have HD2 : Hid (stp ps S = stp qs.dropLast (S.drop (i + 1))) := hD
            have HA2 : Hid (Aw wr B ad c qs.dropLast) := hid (by rw [List.dropLast_eq_take]; exact HA.out.take _)
            obtain ⟨ga, had⟩ : ∃ g, ad = some ⟨g, 0, none⟩ := by
              rcases HA.out with ⟨_, h, _⟩ | ⟨g, h, _⟩
              · exact absurd h hq0
              · exact ⟨g, h⟩
            subst had
            generalize hq : qs.dropLast = qd at *
            generalize qs.length = m at *
            obtain ⟨m', rfl⟩ : ∃ m', m = m' + 1 := ⟨m - 1, by omega⟩
            rw [Nat.add_sub_cancel] at hdl
            have HL : Hid (qd.length = m') := hdl
            have j1 : (0 : Int) ≤ (m' : Int) := by omega
            have j2 : (m' : Int) ≤ (c : Int) := by omega
            have hm0 : ¬ ((m' : Int) + 1 = 0) := by omega
            have hm0' : (((m' : Int) + 1) == 0) = false := beq_eq_false_iff_ne.2 hm0
            clear hD k kk HD hq0 hdl hq HA
            go_wp2_with fail
            go_roundg (N - (i + 1))
            case measure => omega
            case rel => exact ⟨i + 1, some ⟨ga, 0, none⟩, c, qd, by omega, by simp, rfl, by rw [HL.out], HA2, HSp, HK, bb, by rw [HL.out]; omega, HD2⟩
        · have hDD : (x == [46, 46]) = false := by simpa using d
          by_cases g255 : 255 < x.length
          · rw [stp_long _ _ _ k d g255] at hD
            have HF : Hid ((stp ps S).2 = 2) := hid (by rw [hD])
            clear hD k kk HD d
            go_wp2_with fail
            try simp only [Exit.noGoto, Exit.inBlock, Exit.then]
            go_ret2
            exact ⟨_, _, _, by rw [HF.out]; rfl, fun h => by rw [HF.out] at h; exact absurd h (by decide), bb⟩
          · rw [stp_into _ _ _ k d g255] at hD
            have HD2 : Hid (stp ps S = stp (qs ++ [x]) (S.drop (i + 1))) := hD
            have HAP : Hid (∀ ty, ∃ ad' c' w', (Builtin.append_ #[23, 23] ty #[.slice ad qs.length c, .slice (some ⟨wr.heap.size, 0, none⟩) 1 1]).run Tryd.prog (wr.alloc (.cells #[.string (bs x)] 9)) = .ok (.slice ad' (qs.length + 1) c') w' ∧ Aw w' B ad' c' (qs ++ [x]) ∧ (∀ g, ad' = some ⟨g, 0, none⟩ → g = gw → c' ≤ n) ∧ (∀ o, n ≤ o → w'.cell? ⟨gw, o, none⟩ = (wr.alloc (.cells #[.string (bs x)] 9)).cell? ⟨gw, o, none⟩) ∧ Below B (wr.alloc (.cells #[.string (bs x)] 9)) w') := hid (fun ty =>
              append_one B gw n ad c qs (HA.out.below ((Below.refl _ _).alloc (Nat.le_refl _) _)) HSp.out (by simp; omega) ⟨wr.heap.size, 0, none⟩ x (by simp) (by simp; omega) (by omega) ty)
            have HK3 : Hid (∀ o, n ≤ o → (wr.alloc (.cells #[.string (bs x)] 9)).cell? ⟨gw, o, none⟩ = w.cell? ⟨gw, o, none⟩) := hid (fun o ho => (((Below.refl wr.heap.size wr).alloc (Nat.le_refl _) _).cell (p := ⟨gw, o, none⟩) (by show gw < wr.heap.size; omega)).trans (HK.out o ho))
            have bb3 : Below B w (wr.alloc (.cells #[.string (bs x)] 9)) := bb.alloc (by omega) _
            clear hD k kk HD d
            obtain ⟨ad', c', w', hrun, a1, a2, a3, a4⟩ := HAP.out 23
            have HA4 : Hid (Aw w' B ad' c' (qs ++ [x])) := a1
            have HS4 : Hid (∀ g, ad' = some ⟨g, 0, none⟩ → g = gw → c' ≤ n) := a2
            have HK4 : Hid (∀ o, n ≤ o → w'.cell? ⟨gw, o, none⟩ = w.cell? ⟨gw, o, none⟩) := hid (fun o ho => (a3 o ho).trans (HK3.out o ho))
            have bb4 : Below B w w' := bb3.trans a4
            have HR : Hid _ := hrun
            clear a1 a2 a3 a4 hrun HAP HK3
            go_wp2_with (at_builtin; refine wpList_append_run rfl _ _ 23 23 rfl _ _ _ rfl rfl HR.out ?_)
            go_roundg (N - (i + 1))
            case measure => omega
            case rel => exact ⟨i + 1, ad', c', qs ++ [x], by omega, by simp, rfl, by simp, HA4, HS4, HK4, bb4, by simp; omega, HD2⟩
      · have k' : keep x = false := by simpa using k
        rw [stp_skip _ _ _ k'] at hD
        have HD2 : Hid (stp ps S = stp qs (S.drop (i + 1))) := hD
        by_cases e1 : x = []
        · have hE : x.isEmpty = true := by rw [e1]; rfl
          clear hD k k' e1 HD
          go_wp2_with fail
          go_roundg (N - (i + 1))
          case measure => omega
          case rel => exact ⟨i + 1, ad, c, qs, by omega, by simp, rfl, rfl, HA, HSp, HK, bb, by omega, HD2⟩
        · have hE : x.isEmpty = false := by simpa using e1
          have hDt : (x == [46]) = true := by
            by_cases e2 : x = [46]
            · simpa using e2
            · exact absurd (by simp [keep, e1, e2]) k
          clear hD k k' e1 HD
          go_wp2_with fail
          go_roundg (N - (i + 1))
          case measure => omega
          case rel => exact ⟨i + 1, ad, c, qs, by omega, by simp, rfl, rfl, HA, HSp, HK, bb, by omega, HD2⟩
    · have h := HD.out
      rw [List.drop_of_length_le (by rw [HN.out]; omega)] at h
      have HF : Hid (stp ps S = (qs, 0)) := h
      clear h HD
      go_wp2_with fail
      try simp only [Exit.noGoto, Exit.inBlock, Exit.then]
      go_ret2
      exact ⟨_, _, _, by rw [HF.out]; rfl, fun _ => by rw [HF.out]; exact ⟨rfl, hqc, hcm, HA.out.sl⟩, bb⟩

end Go.Proofs.YtojnniacmmcddaaDoor

namespace Go.Proofs.YtojnniacmmcddaaDoor
open Go.RowKit
open Go.Lib hiding intOf
set_option linter.unusedVariables false
set_option linter.unusedSimpArgs false

theorem stp_from : ∀ (S a : List (List UInt8)), (∀ p ∈ (stp a S).1, p ∈ a ∨ p ∈ S) ∧ (stp a S).1.length ≤ a.length + S.length
  | [], a => ⟨fun p hp => .inl hp, by simp [stp]⟩
  | q :: r, a => by
    simp only [stp]
    split
    · obtain ⟨h1, h2⟩ := stp_from r a
      exact ⟨fun p hp => (h1 p hp).imp id (fun h => by simp [h]), by simp; omega⟩
    · split
      · split
        · exact ⟨fun p hp => by simp at hp, by simp⟩
        · obtain ⟨h1, h2⟩ := stp_from r a.dropLast
          refine ⟨fun p hp => (h1 p hp).imp (fun h => List.dropLast_subset _ h) (fun h => by simp [h]), ?_⟩
          rw [List.length_dropLast] at h2
          simp; omega
      · split
        · exact ⟨fun p hp => by simp at hp, by simp⟩
        · obtain ⟨h1, h2⟩ := stp_from r (a ++ [q])
          refine ⟨fun p hp => ?_, by simp at h2 ⊢; omega⟩
          rcases h1 p hp with h | h
          · rcases List.mem_append.1 h with h | h
            · exact .inl h
            · simp at h; subst h; exact .inr (by simp)
          · exact .inr (by simp [h])

theorem jn_len_bound (M : Nat) : ∀ ps : List (List UInt8), (∀ p ∈ ps, p.length ≤ M) → (jn ps).length ≤ ps.length * (M + 1)
  | [], _ => by simp [jn_nil]
  | [p], h => by have := h p (by simp); rw [jn_one]; simp; omega
  | p :: q :: r, h => by
    have h1 := h p (by simp)
    have ih := jn_len_bound M (q :: r) (fun x hx => h x (List.mem_cons_of_mem _ hx))
    rw [jn_cons, List.length_cons (a := p), Nat.succ_mul]
    simp only [List.length_append, List.length_cons] at ih ⊢
    omega

theorem spl_len_mem (l p : List UInt8) (h : p ∈ spl l) : p.length ≤ l.length := by
  have := jn_length_le (spl l) p h
  rwa [jn_spl] at this

theorem prt_mem (l p : List UInt8) (h : p ∈ prt l) : p.length ≤ l.length := by
  unfold prt at h
  split at h
  · simp at h
  · exact spl_len_mem l p h

theorem Aw.part {w : World} {B B' c n : Nat} {g : Nat} {ps qs : List (List UInt8)} (h : Aw w B (some ⟨g, 0, none⟩) c (ps ++ qs)) (hn : n = ps.length) (hB : B' ≤ B) : Aw w B' (some ⟨g, 0, none⟩) n ps := by
  rcases h with ⟨h, _⟩ | ⟨g', h1, h2, h3, h4, h5, h6, h7⟩
  · cases h
  · have e : g = g' := by injection h1 with h1; injection h1
    subst e hn
    rw [List.length_append] at h4
    refine .inr ⟨g, rfl, Nat.le_trans hB h2, h3, Nat.le_refl _, by omega, fun i hi => h6 i (by omega), fun i x hx => h7 i x ?_⟩
    rw [List.getElem?_append_left (List.getElem?_eq_some_iff.1 hx).1]
    exact hx

theorem Aw.rest {w : World} {B c : Nat} {g : Nat} {ps qs : List (List UInt8)} (h : Aw w B (some ⟨g, 0, none⟩) c (ps ++ qs)) : (∀ i x, qs[i]? = some x → w.cell? ⟨g, ps.length + i, none⟩ = some (.string (bs x))) ∧ g < w.heap.size ∧ ps.length + qs.length ≤ c ∧ c ≤ 9223372036854775807 := by
  rcases h with ⟨h, _⟩ | ⟨g', h1, h2, h3, h4, h5, h6, h7⟩
  · cases h
  · have e : g = g' := by injection h1 with h1; injection h1
    subst e
    rw [List.length_append] at h4
    refine ⟨fun i x hx => h7 _ x ?_, h3, h4, h5⟩
    rw [List.getElem?_append_right (by omega), Nat.add_sub_cancel_left]
    exact hx

theorem resolve_abs (d tt : List UInt8) (hl : tt.length ≤ 9223372036854775807) (h : snd0 tt = 103) (w : World) :
    Calls Tryd.prog 16 #[.string (bs d), .string (bs tt)] w fun e w' => e = .returned (.tuple #[.string (bs (rsv d tt).1), .int .i64 (rsv d tt).2]) ∧ Below w.heap.size w w' := by
  have q := sound_w tt hl w
  rw [h] at q
  have HF : Hid (rsv d tt = ([], 110)) := hid (by unfold rsv; rw [if_pos h])
  clear h
  go_enter Tryd.func16, Tryd.ntmps16
  go_wp2_with (go_at_call 36; refine q.mono ?_; rintro e w1 ⟨rfl, b1⟩)
  go_ret2
  exact ⟨by rw [HF.out]; rfl, b1⟩

theorem resolve_bad (d tt : List UInt8) (hl : tt.length ≤ 9223372036854775807) (h : snd0 tt ≠ 103) (h0 : snd0 tt ≠ 0) (w : World) :
    Calls Tryd.prog 16 #[.string (bs d), .string (bs tt)] w fun e w' => e = .returned (.tuple #[.string (bs (rsv d tt).1), .int .i64 (rsv d tt).2]) ∧ Below w.heap.size w w' := by
  have q := sound_w tt hl w
  have HF : Hid (rsv d tt = ([], snd0 tt)) := hid (by unfold rsv; rw [if_neg h, if_pos h0])
  generalize snd0 tt = z at *
  go_enter Tryd.func16, Tryd.ntmps16
  go_wp2_with (go_at_call 36; refine q.mono ?_; rintro e w1 ⟨rfl, b1⟩)
  go_ret2
  exact ⟨by rw [HF.out]; rfl, b1⟩

set_option maxRecDepth 20000 in
set_option maxHeartbeats 2000000 in
theorem resolve_ok (d tt : List UInt8) (hdl : d.length ≤ 4000) (h0 : snd0 tt = 0) (w : World) (hm : Ml w) :
    Calls Tryd.prog 16 #[.string (bs d), .string (bs tt)] w fun e w' => e = .returned (.tuple #[.string (bs (rsv d tt).1), .int .i64 (rsv d tt).2]) ∧ Below w.heap.size w w' := by
  have htl : tt.length ≤ 4000 := ((snd_zero tt).1 h0).2.1
  have q := sound_w tt (by omega) w
  rw [h0] at q
  have KP : Hid (∀ W, Below w.heap.size w W → Calls Tryd.prog 41 #[.string (bs d)] W fun e w' => ∃ ad, e = .returned (.slice ad (prt d).length (prt d).length) ∧ Hid (Sl w' ad (prt d)) ∧ Below W.heap.size W w') := fun W hb => parts_w d (by omega) W (hm.below hb)
  have KS : Hid (∀ W, Below w.heap.size w W → Calls Tryd.prog 37 #[.string (bs tt), .string ⟨#[47]⟩] W fun e w' => e = .returned (.slice (some ⟨W.heap.size, 0, none⟩) (spl tt).length (spl tt).length) ∧ Hid (w' = W.alloc (.cells (strs (spl tt)).toArray 9))) := fun W hb => split_w tt (by omega) W (hm.below hb)
  have HR : Hid (rsv d tt = if (stp (prt d) (spl tt)).2 ≠ 0 then ([], (stp (prt d) (spl tt)).2) else (jn (stp (prt d) (spl tt)).1, 0)) := hid (by unfold rsv; rw [h0, if_neg (by decide), if_neg (by simp)])
  have hpl : (prt d).length ≤ 4001 := by
    unfold prt; split
    · simp
    · have := spl_len_le d; omega
  have hsl : (spl tt).length ≤ 4001 := by have := spl_len_le tt; omega
  have hs1 : 1 ≤ (spl tt).length := List.length_pos_iff.2 (spl_ne tt)
  obtain ⟨hfrom, hflen⟩ := stp_from (spl tt) (prt d)
  have hjl : (jn (stp (prt d) (spl tt)).1).length ≤ 140737488355328 := by
    have := jn_len_bound 4000 (stp (prt d) (spl tt)).1 (fun p hp => by
      rcases hfrom p hp with h | h
      · have := prt_mem d p h; omega
      · have := spl_len_mem tt p h; omega)
    have h2 : (stp (prt d) (spl tt)).1.length * (4000 + 1) ≤ 8002 * 4001 := Nat.mul_le_mul (by omega) (by omega)
    omega
  clear hfrom hm h0
  generalize prt d = ps at *
  generalize spl tt = qs at *
  have KJ : Hid (∀ W ad c, (stp ps qs).2 = 0 → Sl W ad (stp ps qs).1 → (stp ps qs).1.length ≤ c → Calls Tryd.prog 13 #[.slice ad (stp ps qs).1.length c] W fun e w' => e = .returned (.string (bs (jn (stp ps qs).1))) ∧ Below W.heap.size W w') := fun W ad c _ hs hc => join_w ad c _ W hs hc (by omega) hjl
  have KW : Hid (∀ W c' g, Aw W g (some ⟨g, 0, none⟩) c' (ps ++ qs) → w.heap.size ≤ g → Calls Tryd.prog 42 #[.slice (some ⟨g, 0, none⟩) ps.length ps.length, .slice (some ⟨g, ps.length, none⟩) qs.length (c' - ps.length)] W fun e w' => ∃ ad' c' len', e = .returned (.tuple #[.slice ad' len' c', .int .i64 (stp ps qs).2]) ∧ Hid ((stp ps qs).2 = 0 → len' = (stp ps qs).1.length ∧ len' ≤ c' ∧ c' ≤ 9223372036854775807 ∧ Sl w' ad' (stp ps qs).1) ∧ Below w.heap.size W w') := fun W c' g hA hg => by
    obtain ⟨r1, r2, r3, r4⟩ := hA.rest
    exact walk_w w.heap.size g ps.length (some ⟨g, 0, none⟩) ps.length ps qs (c' - ps.length) W (hA.part rfl hg) (fun g' e1 e2 => Nat.le_refl _) r1 r2 (by omega) (by omega) (by omega) (by omega) (by omega)
  have KA : Hid (∀ W ad ad2 c2 ty, Sl W ad ps → Sl W ad2 qs → ∃ c' w', (Builtin.append_ #[23, 23] ty #[.slice ad ps.length ps.length, .slice ad2 qs.length c2]).run Tryd.prog W = .ok (.slice (some ⟨W.heap.size, 0, none⟩) (ps.length + qs.length) c') w' ∧ Aw w' W.heap.size (some ⟨W.heap.size, 0, none⟩) c' (ps ++ qs) ∧ Below W.heap.size W w') := fun W ad ad2 c2 ty h1 h2 => append_all ad ad2 ps.length c2 ps qs h1 h2 (by omega) (by omega) ty
  generalize hn : ps.length = n at *
  generalize hm : qs.length = m at *
  go_enter Tryd.func16, Tryd.ntmps16
  go_upto_region 9 with (first
    | (at_builtin; obtain ⟨c4, w4, hrun, hA4, b4⟩ := KA.out w3 ad2 (some ⟨w2.heap.size, 0, none⟩) m 23 sa3 sb3; have b04 := b03.trans (b4.mono b03.size); have HA4 := hid hA4; refine wpList_append_run rfl _ _ 23 23 rfl _ _ _ rfl rfl hrun ?_; clear hrun hA4)
    | (go_at_call 37; refine (KS.out _ b02).mono ?_; rintro e w3 ⟨rfl, HW3⟩; have sa3 : Sl w3 ad2 ps := (by rw [HW3.out]; exact hs2.out.below ((Below.refl _ _).alloc (Nat.le_refl _) _)); have sb3 : Sl w3 (some ⟨w2.heap.size, 0, none⟩) qs := (by rw [HW3.out]; exact split_sl w2 qs); have b03 : Below w.heap.size w w3 := (by rw [HW3.out]; exact b02.alloc b02.size _); clear HW3)
    | (go_at_call 41; refine (KP.out _ b1).mono ?_; rintro e w2 ⟨ad2, rfl, hs2, b2⟩; have b02 := b1.trans (b2.mono b1.size))
    | (go_at_call 36; refine q.mono ?_; rintro e w1 ⟨rfl, b1⟩))
  have hA5 : Aw w4.drew w3.heap.size (some ⟨w3.heap.size, 0, none⟩) c4 (ps ++ qs) := HA4.out
  have hw5 := KW.out w4.drew c4 w3.heap.size hA5 b03.size
  have hr4 := hA5.rest
  rw [hn, hm] at hr4
  have hc1 : n < c4 := by omega
  have hc2 : c4 ≤ 9223372036854775807 := hr4.2.2.2
  have b05 : Below w.heap.size w w4.drew := b04.drew
  clear hA5 HA4 hr4 sa3 sb3
  go_region_with (go_at_call 42; refine hw5.mono ?_; rintro e w6 ⟨ad6, c6, len6, rfl, H6, b6⟩)
  all_goals
    have b06 := b05.trans b6
    by_cases hz : (stp ps qs).2 = 0
    · obtain ⟨rfl, hl6, hc6, hs6⟩ := H6.out hz
      have q7 := KJ.out w6 ad6 c6 hz hs6 hl6
      have HF : Hid (rsv d tt = (jn (stp ps qs).1, 0)) := hid (by rw [HR.out, if_neg (by simp [hz])])
      rw [hz]
      clear HR H6 hw5 hs6
      generalize jn (stp ps qs).1 = J at *
      generalize (stp ps qs).1.length = L at *
      go_wp2_with (go_at_call 13; refine q7.mono ?_; rintro e w7 ⟨rfl, b7⟩)
      go_ret2
      exact ⟨by rw [HF.out]; rfl, b06.trans (b7.mono b06.size)⟩
    · have HF : Hid (rsv d tt = ([], (stp ps qs).2)) := hid (by rw [HR.out, if_pos hz])
      clear HR H6 hw5
      generalize (stp ps qs).2 = z at *
      go_wp2_with fail
      go_ret2
      exact ⟨by rw [HF.out]; rfl, b06⟩

theorem resolve_w (d tt : List UInt8) (hdl : d.length ≤ 4000) (hl : tt.length ≤ 9223372036854775807) (w : World) (hm : Ml w) :
    Calls Tryd.prog 16 #[.string (bs d), .string (bs tt)] w fun e w' => e = .returned (.tuple #[.string (bs (rsv d tt).1), .int .i64 (rsv d tt).2]) ∧ Below w.heap.size w w' := by
  by_cases h0 : snd0 tt = 0
  · exact resolve_ok d tt hdl h0 w hm
  · by_cases h : snd0 tt = 103
    · exact resolve_abs d tt hl h w
    · exact resolve_bad d tt hl h h0 w

end Go.Proofs.YtojnniacmmcddaaDoor

