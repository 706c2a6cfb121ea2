/-
  Two rows of strings of one's own; strings that were seen, in a map.
-/
import Derived.Test.YtojnniacmmcddaaDoorMa
import Derived.Test.YtojnniacmmcddaaDoorU0
namespace Go.Proofs.YtojnniacmmcddaaDoor
open Go.RowKit
open Go.Lib hiding intOf
set_option linter.unusedVariables false
set_option linter.unusedSimpArgs false

/-- one string more: in its place, or all of them in a new one; all else is as it was -/
theorem append_sep {w : World} (B : Nat) (ad : Option Addr) (c : Nat) (ps : List (List UInt8)) (h : Aw w B ad c ps)
    (xa : Addr) (x : List UInt8) (hx : w.cell? xa = some (.string (bs x))) (hB : B ≤ w.heap.size) (hlen : ps.length + 1 ≤ 100000) (ty : TypeId) :
    ∃ ad' c' w', (Builtin.append_ #[23, 23] ty #[.slice ad ps.length c, .slice (some xa) 1 1]).run Tryd.prog w = .ok (.slice ad' (ps.length + 1) c') w' ∧
      Aw w' B ad' c' (ps ++ [x]) ∧ (ad' = ad ∨ ad' = some ⟨w.heap.size, 0, none⟩) ∧ (∀ k, k < w.heap.size → ad ≠ some ⟨k, 0, none⟩ → w'.heap[k]? = w.heap[k]?) ∧ Below B w w' := by
  obtain ⟨i, hi, hz0, hz1, hz2⟩ := info_parts_str
  have hsrc : Src Tryd.prog 1 23 (.slice (some xa) 1 1) 1 [.string (bs x)] w := Src.ofSlice w Tryd.underlying23 xa 1 1 _ rfl (fun j u hj => by
    match j, hj with
    | 0, hj => cases hj; simpa [Addr.add] using hx
    | j + 1, hj => simp at hj) (fun u hu => by simp at hu; subst hu; rfl)
  by_cases hroom : ps.length + 1 ≤ c
  · rcases h with ⟨_, _, h0⟩ | ⟨g, h1, h2, h3, h4, h5, h6, h7⟩
    · omega
    · subst h1
      have hrun := run_append_room_src (P := Tryd.prog) (w := w) 23 23 ty 9 i Tryd.underlying23 hi g 0 ps.length c (.slice (some xa) 1 1) 1 [.string (bs x)] (by rw [hz1]; exact hsrc) hroom
        (fun j hj => by simp at hj; subst hj; rw [hz1, Nat.zero_add, Nat.mul_one, Nat.add_zero]; exact (h6 _ (by omega)).1)
        (fun j hj => by simp at hj; subst hj; rw [hz1, Nat.zero_add, Nat.mul_one, Nat.add_zero]; exact (h6 _ (by omega)).2)
      rw [hz1, Nat.zero_add, Nat.mul_one] at hrun
      refine ⟨some ⟨g, 0, none⟩, c, _, hrun, ?_, .inl rfl, ?_, ?_⟩
      · show Aw (w.setCell ⟨g, ps.length, none⟩ (.string (bs x))) B _ c _
        obtain ⟨u, hu⟩ := Option.isSome_iff_exists.1 (h6 ps.length (by omega)).1
        refine .inr ⟨g, rfl, h2, by simpa [World.setCell] using h3, by simp; omega, h5, fun k hk => ⟨?_, ?_⟩, fun k y hy => ?_⟩
        · by_cases e : k = ps.length
          · subst e; rw [World.cell?_setCell_same _ _ _ hu]; rfl
          · rw [World.cell?_setCell_other _ _ _ _ (by intro e'; injection e' with _ e'; exact e e'.symm)]; exact (h6 k hk).1
        · rw [World.frozen?_setCell]; exact (h6 k hk).2
        · by_cases e : k = ps.length
          · subst e
            rw [List.getElem?_append_right (Nat.le_refl _), Nat.sub_self] at hy
            simp at hy
            subst hy
            exact World.cell?_setCell_same _ _ _ hu
          · rw [World.cell?_setCell_other _ _ _ _ (by intro e'; injection e' with _ e'; exact e e'.symm)]
            have hlt : k < ps.length := by
              have := (List.getElem?_eq_some_iff.1 hy).1
              simp at this
              omega
            rw [List.getElem?_append_left hlt] at hy
            exact h7 k y hy
      · intro k hk hne
        show (w.setCell ⟨g, ps.length, none⟩ (.string (bs x))).heap[k]? = _
        have hkg : k ≠ g := fun e => hne (by rw [e])
        unfold World.setCell
        simp only
        rw [Array.getElem?_modify]
        rw [if_neg (fun e => hkg e.symm)]
      · exact (Below.refl _ _).setCell (p := ⟨g, ps.length, none⟩) h2 _
  · have hle := h.le
    have hg : c < ps.length + 1 := by omega
    have hold : (Builtin.firstCells i.size ps.length (.slice ad ps.length c)).run Tryd.prog w.drew = .ok (strs ps).toArray w.drew := by
      have := (h.sl.src c (fun _ => rfl)).cellsD
      rwa [← hz1] at this
    have hrun := run_append_grow_src (P := Tryd.prog) (w := w) 23 23 ty 9 i (.string ⟨#[]⟩) Tryd.underlying23 hi hz0 ad ps.length c (strs ps) hold (.slice (some xa) 1 1) 1 [.string (bs x)] (by rw [hz1]; exact hsrc) hg (by omega) (fits16 _ _ hg hlen i hz2)
    rw [strs_snoc] at hrun
    obtain ⟨k1, k2⟩ := cap_le w (ps.length + 1) c 9 hlen
    have hfr := Aw.fresh w.drew (ps ++ [x]) (grownCap w (ps.length + 1) c 9) (by simpa using k1) k2
    rw [List.length_append] at hfr
    refine ⟨some ⟨w.heap.size, 0, none⟩, _, _, hrun, ?_, .inr rfl, ?_, ?_⟩
    · rcases hfr with ⟨h, _⟩ | ⟨g, a1, a2, a3, a4⟩
      · cases h
      · refine .inr ⟨g, a1, Nat.le_trans hB a2, a3, a4⟩
    · intro k hk _
      exact (((Below.refl w.heap.size w).drew).alloc (Nat.le_refl _) _).block k hk
    · exact ((Below.refl B w).drew).alloc hB _

theorem Aw.keep {w w' : World} {B c : Nat} {ad : Option Addr} {ps : List (List UInt8)} (h : Aw w B ad c ps) (hs : w.heap.size ≤ w'.heap.size) (hk : ∀ g, ad = some ⟨g, 0, none⟩ → w'.heap[g]? = w.heap[g]?) : Aw w' B ad c ps := by
  rcases h with h | ⟨g, h1, h2, h3, h4, h5, h6, h7⟩
  · exact .inl h
  · have e := hk g h1
    have ec : ∀ i, w'.cell? ⟨g, i, none⟩ = w.cell? ⟨g, i, none⟩ := fun i => by unfold World.cell?; simp only [e]
    have ef : ∀ i, w'.frozen? ⟨g, i, none⟩ = w.frozen? ⟨g, i, none⟩ := fun i => by unfold World.frozen?; simp only [e]
    exact .inr ⟨g, h1, h2, Nat.lt_of_lt_of_le h3 hs, h4, h5, fun i hi => by rw [ec, ef]; exact h6 i hi, fun i x hx => (ec i).trans (h7 i x hx)⟩

theorem Aw.blt {w : World} {B c : Nat} {ad : Option Addr} {ps : List (List UInt8)} (h : Aw w B ad c ps) {g : Nat} (e : ad = some ⟨g, 0, none⟩) : B ≤ g ∧ g < w.heap.size := by
  rcases h with ⟨h, _⟩ | ⟨g', h1, h2, h3, _⟩
  · rw [h] at e; cases e
  · rw [h1] at e
    injection e with e
    injection e with e
    subst e
    exact ⟨h2, h3⟩

/-- two rows of strings of one's own, apart -/
structure Tw (w : World) (B : Nat) (a1 : Option Addr) (c1 : Nat) (P1 : List (List UInt8)) (a2 : Option Addr) (c2 : Nat) (P2 : List (List UInt8)) : Prop where
  one : Aw w B a1 c1 P1
  two : Aw w B a2 c2 P2
  sep : ∀ g, a1 = some ⟨g, 0, none⟩ → a2 ≠ some ⟨g, 0, none⟩

theorem Tw.swap {w : World} {B : Nat} {a1 a2 : Option Addr} {c1 c2 : Nat} {P1 P2 : List (List UInt8)} (h : Tw w B a1 c1 P1 a2 c2 P2) : Tw w B a2 c2 P2 a1 c1 P1 := ⟨h.two, h.one, fun g e1 e2 => h.sep g e2 e1⟩
theorem Tw.below {w w' : World} {B : Nat} {a1 a2 : Option Addr} {c1 c2 : Nat} {P1 P2 : List (List UInt8)} (h : Tw w B a1 c1 P1 a2 c2 P2) (b : Below w.heap.size w w') : Tw w' B a1 c1 P1 a2 c2 P2 := ⟨h.one.below b, h.two.below b, h.sep⟩

/-- a string is put to the first -/
theorem Tw.push {w : World} {B : Nat} {a1 a2 : Option Addr} {c1 c2 : Nat} {P1 P2 : List (List UInt8)} (h : Tw w B a1 c1 P1 a2 c2 P2) (x : List UInt8) (hB : B ≤ w.heap.size) (hlen : P1.length + 1 ≤ 100000) :
    ∃ a' c' w', (Builtin.append_ #[23, 23] 23 #[.slice a1 P1.length c1, .slice (some ⟨w.heap.size, 0, none⟩) 1 1]).run Tryd.prog (w.alloc (.cells #[.string (bs x)] 9)) = .ok (.slice a' (P1.length + 1) c') w' ∧
      Tw w' B a' c' (P1 ++ [x]) a2 c2 P2 ∧ Below B w w' ∧ (∀ k, k < w.heap.size → a1 ≠ some ⟨k, 0, none⟩ → w'.heap[k]? = w.heap[k]? ∧ a' ≠ some ⟨k, 0, none⟩) := by
  have b0 := below_box w (.cells #[.string (bs x)] 9)
  have s0 := size_box w (.cells #[.string (bs x)] 9)
  obtain ⟨a', c', w', hrun, hA, hor, hk, hb⟩ := append_sep B a1 c1 P1 (h.one.below b0) ⟨w.heap.size, 0, none⟩ x (by simp) (by omega) hlen 23
  have hne : ∀ k, k < w.heap.size → a1 ≠ some ⟨k, 0, none⟩ → a' ≠ some ⟨k, 0, none⟩ := fun k hk1 hk2 e => by
    rcases hor with h1 | h1
    · exact hk2 (by rw [← h1, e])
    · rw [h1] at e
      injection e with e
      injection e with e
      omega
  refine ⟨a', c', w', hrun, ⟨hA, ?_, ?_⟩, (b0.mono hB).trans hb, fun k hk1 hk2 => ⟨(hk k (by omega) hk2).trans (b0.block k hk1), hne k hk1 hk2⟩⟩
  · refine (h.two.below b0).keep hb.size (fun g e => hk g ?_ (fun e2 => h.sep g e2 e))
    exact ((h.two.below b0).blt e).2
  · intro g e1 e2
    have hg := (h.two.blt e2).2
    exact hne g hg (fun e => h.sep g e e2) e1

/-- the last of the first is taken away -/
theorem Tw.pop {w : World} {B : Nat} {a1 a2 : Option Addr} {c1 c2 : Nat} {P1 P2 : List (List UInt8)} {d : List UInt8} (h : Tw w B a1 c1 (P1 ++ [d]) a2 c2 P2) : Tw w B a1 c1 P1 a2 c2 P2 := by
  refine ⟨?_, h.two, h.sep⟩
  have := h.one.take P1.length
  rwa [List.take_left] at this

/-! strings that were seen -/

theorem key9 : Go.Maps.Keyed Tryd.prog 9 := Go.Maps.string_keyed Tryd.underlying9
theorem make41 (w : World) : (Instr.makeMap 41 none).run Tryd.prog w = .ok (.map (some w.heap.size)) (w.alloc (.map #[] 0)) := rfl

structure Sn (w : World) (gm n : Nat) (S : List (List UInt8)) : Prop where
  own : ∃ D : DataW Unit, w.ownsMap Tryd.prog 9 (plainElem Tryd.prog 4) gm n D ∧ Maps.Tidy D ∧ ∀ l : List UInt8, Maps.has D (.string l) = decide (l ∈ S)

theorem Sn.made (w : World) : Sn (w.alloc (.map #[] 0)) w.heap.size 0 [] :=
  ⟨.map [], World.ownsMap_made w _ _ _, Maps.tidy_empty, fun z => by simp [Maps.has]⟩
theorem Sn.kept {w w' : World} {gm n : Nat} {S : List (List UInt8)} (h : Sn w gm n S) (b : Below w.heap.size w w') : Sn w' gm n S := by
  obtain ⟨D, h1, h2, h3⟩ := h.own
  exact ⟨D, h1.kept (grown_below (row := none) b) (by simp), h2, h3⟩
theorem Sn.lt {w : World} {gm n : Nat} {S : List (List UInt8)} (h : Sn w gm n S) : gm < w.heap.size := by
  obtain ⟨D, h1, _⟩ := h.own
  exact h1.lt
theorem Sn.congr {w : World} {gm n : Nat} {S S' : List (List UInt8)} (h : Sn w gm n S) (e : ∀ l, l ∈ S ↔ l ∈ S') : Sn w gm n S' := by
  obtain ⟨D, h1, h2, h3⟩ := h.own
  exact ⟨D, h1, h2, fun l => by rw [h3 l]; exact decide_eq_decide.2 (e l)⟩

theorem key_of9 (l : List UInt8) (hl : l.length ≤ 9223372036854775807) : keyOf Tryd.prog 9 (.string (bs l)) = some (.string l) := by
  have hs : (bs l).size ≤ maxLen := by rw [bs_size]; unfold maxLen; exact hl
  have e : (bs l).data.toList = l := by rw [bs_data]
  simp [keyOf, Tryd.underlying9, mapKey, hs, e]

theorem elem_bool4 (b : Bool) : plainElem (H := Unit) Tryd.prog 4 (.bool b) = some (.lit (.bool b), []) := by
  simp [plainElem, Tryd.underlying4]

set_option maxRecDepth 100000 in
theorem bool_inv4 {v : Value} {y : DataW Unit × List MemPlace} (h : plainElem (H := Unit) Tryd.prog 4 v = some y) : ∃ c, v = .bool c ∧ y = (.lit (.bool c), []) := by
  unfold plainElem at h
  rw [Tryd.underlying4] at h
  cases v <;> simp at h
  exact ⟨_, rfl, h.symm⟩

theorem Sn.look {w : World} {gm n : Nat} {S : List (List UInt8)} (h : Sn w gm n S) (l : List UInt8) (hl : l.length ≤ 9223372036854775807) (hn : l ∉ S) :
    (Instr.lookup 41 (.map (some gm)) (.string (bs l)) false).run Tryd.prog w = .ok (.bool false) w := by
  obtain ⟨D, h1, h2, h3⟩ := h.own
  have h4 : Maps.has D (.string l) = false := (h3 l).trans (decide_eq_false hn)
  obtain ⟨v, ps, hr, hv⟩ := h1.lookup key9 Tryd.underlying41 (z := .bool false) (by kernel_rfl) (elem_bool4 false) (key_of9 l hl)
  rw [Maps.atKey_of_not_has h4] at hv
  obtain ⟨c, rfl, e⟩ := bool_inv4 hv
  simp at e
  rw [hr, ← e.1]

theorem Sn.put {w : World} {gm n : Nat} {S : List (List UInt8)} (h : Sn w gm n S) (l : List UInt8) (hl : l.length ≤ 9223372036854775807) (hn : n < maxLen) :
    ∃ w', (Instr.mapUpdate 41 (.map (some gm)) (.string (bs l)) (.bool true)).run Tryd.prog w = .ok () w' ∧ Sn w' gm (n + 1) (l :: S) ∧ w.grownBy w' (some gm) := by
  obtain ⟨D, h1, h2, h3⟩ := h.own
  obtain ⟨w', r1, r2, r3⟩ := h1.update key9 Tryd.underlying41 hn (key_of9 l hl) (val := .bool true) (d := .lit (.bool true)) (ps := []) (elem_bool4 true)
  have hk : WideAt.IsKeyLit (.string l) := trivial
  refine ⟨w', r1, ⟨_, r2, h2.put hk _, fun y => ?_⟩, r3⟩
  by_cases e : y = l
  · subst e
    rw [Maps.has_put_same h2.isMap hk]
    simp
  · have hne : (Lit.string y) ≠ .string l := fun x => e (by injection x)
    rw [Maps.has_put_other hne, h3 y]
    simp [e]

/-! lengths -/

theorem len_sub {α : Type} [BEq α] [LawfulBEq α] : ∀ (l m : List α), l.Nodup → (∀ x ∈ l, x ∈ m) → l.length ≤ m.length
  | [], m, _, _ => Nat.zero_le _
  | a :: l, m, hn, hs => by
    rw [List.nodup_cons] at hn
    have h1 := len_sub l (m.erase a) hn.2 (fun x hx => (List.mem_erase_of_ne (fun e => hn.1 (by rw [← e]; exact hx))).2 (hs x (by simp [hx])))
    have hm := hs a (by simp)
    rw [List.length_erase_of_mem hm] at h1
    have := List.length_pos_of_mem hm
    simp
    omega

end Go.Proofs.YtojnniacmmcddaaDoor
