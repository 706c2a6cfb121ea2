/-
  append to a row of strings of one's own that ends within its block; append of one list to another.
-/
import Derived.Test.YtmeaiplinkodiabDoorAw
namespace Go.Proofs.YtmeaiplinkodiabDoor
open Go.RowKit
open Go.Lib hiding intOf
set_option linter.unusedVariables false
set_option linter.unusedSimpArgs false

theorem fits16 (n c : Nat) (h : c < n) (hn : n ≤ 100000) (i : TypeInfo) (hb : i.bytes = 16) : Builtin.nextslicecap n c * i.bytes ≤ 281474976710656 := by
  rw [hb]
  exact growslice_fits h (by omega)

theorem cell_isSome {w : World} {B c : Nat} {g : Nat} (h6 : ∀ i, i < c → (w.cell? ⟨g, i, none⟩).isSome = true ∧ w.frozen? ⟨g, i, none⟩ = false) (k : Nat) (hk : k < c) : ∃ u, w.cell? ⟨g, k, none⟩ = some u := Option.isSome_iff_exists.1 (h6 k hk).1

/-- one string more: in its place, or all of them in a new one -/
theorem append_one {w : World} (B gw n : Nat) (ad : Option Addr) (c : Nat) (ps : List (List UInt8)) (h : Aw w B ad c ps) (hsep : ∀ g, ad = some ⟨g, 0, none⟩ → g = gw → c ≤ n) (hgw : gw < w.heap.size)
    (xa : Addr) (x : List UInt8) (hx : w.cell? xa = some (.string (bs x))) (hB : B ≤ w.heap.size) (hlen : ps.length + 1 ≤ 100000) (ty : TypeId) :
    ∃ ad' c' w', (Builtin.append_ #[24, 24] ty #[.slice ad ps.length c, .slice (some xa) 1 1]).run Tryd.prog w = .ok (.slice ad' (ps.length + 1) c') w' ∧
      Aw w' B ad' c' (ps ++ [x]) ∧ (∀ g, ad' = some ⟨g, 0, none⟩ → g = gw → c' ≤ n) ∧ (∀ o, n ≤ o → w'.cell? ⟨gw, o, none⟩ = w.cell? ⟨gw, o, none⟩) ∧ Below B w w' := by
  obtain ⟨i, hi, hz0, hz1, hz2⟩ := info_parts_str
  have hsrc : Src Tryd.prog 1 24 (.slice (some xa) 1 1) 1 [.string (bs x)] w := Src.ofSlice w Tryd.underlying24 xa 1 1 _ rfl (fun j u hj => by
    match j, hj with
    | 0, hj => cases hj; simpa [Addr.add] using hx
    | j + 1, hj => simp at hj) (fun u hu => by simp at hu; subst hu; rfl)
  by_cases hroom : ps.length + 1 ≤ c
  · rcases h with ⟨_, _, h0⟩ | ⟨g, h1, h2, h3, h4, h5, h6, h7⟩
    · omega
    · subst h1
      have hrun := run_append_room_src (P := Tryd.prog) (w := w) 24 24 ty 9 i Tryd.underlying24 hi g 0 ps.length c (.slice (some xa) 1 1) 1 [.string (bs x)] (by rw [hz1]; exact hsrc) hroom
        (fun j hj => by simp at hj; subst hj; rw [hz1, Nat.zero_add, Nat.mul_one, Nat.add_zero]; exact (h6 _ (by omega)).1)
        (fun j hj => by simp at hj; subst hj; rw [hz1, Nat.zero_add, Nat.mul_one, Nat.add_zero]; exact (h6 _ (by omega)).2)
      rw [hz1, Nat.zero_add, Nat.mul_one] at hrun
      refine ⟨some ⟨g, 0, none⟩, c, _, hrun, ?_, hsep, ?_, ?_⟩
      · show Aw (w.setCell ⟨g, ps.length, none⟩ (.string (bs x))) B _ c _
        obtain ⟨u, hu⟩ := Option.isSome_iff_exists.1 (h6 ps.length (by omega)).1
        refine .inr ⟨g, rfl, h2, by simpa [World.setCell] using h3, by simp; omega, h5, fun k hk => ⟨?_, ?_⟩, fun k y hy => ?_⟩
        · by_cases e : k = ps.length
          · subst e; rw [World.cell?_setCell_same _ _ _ hu]; rfl
          · rw [World.cell?_setCell_other _ _ _ _ (by intro e'; injection e' with _ e'; exact e e'.symm)]; exact (h6 k hk).1
        · rw [World.frozen?_setCell]; exact (h6 k hk).2
        · by_cases e : k = ps.length
          · subst e
            rw [List.getElem?_append_right (Nat.le_refl _), Nat.sub_self] at hy
            simp at hy
            subst hy
            exact World.cell?_setCell_same _ _ _ hu
          · rw [World.cell?_setCell_other _ _ _ _ (by intro e'; injection e' with _ e'; exact e e'.symm)]
            have hlt : k < ps.length := by
              have := (List.getElem?_eq_some_iff.1 hy).1
              simp at this
              omega
            rw [List.getElem?_append_left hlt] at hy
            exact h7 k y hy
      · intro o ho
        show (w.setCell ⟨g, ps.length, none⟩ (.string (bs x))).cell? ⟨gw, o, none⟩ = _
        refine World.cell?_setCell_other _ _ _ _ ?_
        intro e
        injection e with e1 e2
        have := hsep g rfl e1
        omega
      · exact (Below.refl _ _).setCell (p := ⟨g, ps.length, none⟩) h2 _
  · have hle := h.le
    have hg : c < ps.length + 1 := by omega
    have hold : (Builtin.firstCells i.size ps.length (.slice ad ps.length c)).run Tryd.prog w.drew = .ok (strs ps).toArray w.drew := by
      have := (h.sl.src c (fun _ => rfl)).cellsD
      rwa [← hz1] at this
    have hrun := run_append_grow_src (P := Tryd.prog) (w := w) 24 24 ty 9 i (.string ⟨#[]⟩) Tryd.underlying24 hi hz0 ad ps.length c (strs ps) hold (.slice (some xa) 1 1) 1 [.string (bs x)] (by rw [hz1]; exact hsrc) hg (by omega) (fits16 _ _ hg hlen i hz2)
    rw [strs_snoc] at hrun
    obtain ⟨k1, k2⟩ := cap_le w (ps.length + 1) c 9 hlen
    have hfr := Aw.fresh w.drew (ps ++ [x]) (grownCap w (ps.length + 1) c 9) (by simpa using k1) k2
    rw [List.length_append] at hfr
    refine ⟨some ⟨w.heap.size, 0, none⟩, _, _, hrun, ?_, ?_, ?_, ?_⟩
    · rcases hfr with ⟨h, _⟩ | ⟨g, a1, a2, a3, a4⟩
      · cases h
      · refine .inr ⟨g, a1, Nat.le_trans hB a2, a3, a4⟩
    · intro g e e2
      injection e with e
      injection e with e
      omega
    · intro o ho
      exact (((Below.refl w.heap.size w).drew).alloc (Nat.le_refl _) _).cell (p := ⟨gw, o, none⟩) hgw
    · exact ((Below.refl B w).drew).alloc hB _

/-- one list behind another one that has no room: a new one -/
theorem append_all {w : World} (ad ad2 : Option Addr) (c c2 : Nat) (ps qs : List (List UInt8)) (h1 : Sl w ad ps) (h2 : Sl w ad2 qs) (hg : c < ps.length + qs.length) (hlen : ps.length + qs.length ≤ 100000) (ty : TypeId) :
    ∃ c' w', (Builtin.append_ #[24, 24] ty #[.slice ad ps.length c, .slice ad2 qs.length c2]).run Tryd.prog w = .ok (.slice (some ⟨w.heap.size, 0, none⟩) (ps.length + qs.length) c') w' ∧
      Aw w' w.heap.size (some ⟨w.heap.size, 0, none⟩) c' (ps ++ qs) ∧ Below w.heap.size w w' := by
  obtain ⟨i, hi, hz0, hz1, hz2⟩ := info_parts_str
  have hold : (Builtin.firstCells i.size ps.length (.slice ad ps.length c)).run Tryd.prog w.drew = .ok (strs ps).toArray w.drew := by
    have := (h1.src c (fun _ => rfl)).cellsD
    rwa [← hz1] at this
  have hrun := run_append_grow_src (P := Tryd.prog) (w := w) 24 24 ty 9 i (.string ⟨#[]⟩) Tryd.underlying24 hi hz0 ad ps.length c (strs ps) hold (.slice ad2 qs.length c2) qs.length (strs qs) (by rw [hz1]; exact h2.src c2 (fun _ => rfl)) hg (by omega) (fits16 _ _ hg hlen i hz2)
  have e : strs ps ++ strs qs = strs (ps ++ qs) := by simp [strs]
  rw [e] at hrun
  obtain ⟨k1, k2⟩ := cap_le w (ps.length + qs.length) c 9 hlen
  have hfr := Aw.fresh w.drew (ps ++ qs) (grownCap w (ps.length + qs.length) c 9) (by simpa using k1) k2
  rw [List.length_append] at hfr
  exact ⟨_, _, hrun, hfr, ((Below.refl _ w).drew).alloc (Nat.le_refl _) _⟩

end Go.Proofs.YtmeaiplinkodiabDoor
