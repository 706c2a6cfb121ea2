/-
  Contracts: path.Join, path.Parts, path.Under.
-/
import Derived.Test.YtojbfdlgjjghjaaGreatDoorStr
import Derived.Test.YtojbfdlgjjghjaaGreatDoorPl1
import Derived.BigQuiet
import Derived.Deep.QuietTactic
namespace Go.Proofs.YtojbfdlgjjghjaaGreatDoor
open Go.RowKit
open Go.Lib hiding intOf
set_option linter.unusedVariables false
set_option linter.unusedSimpArgs false

/-- strings lie at an address -/
def Sl (w : World) (ad : Option Addr) (ps : List (List UInt8)) : Prop :=
  ps = [] ∨ ∃ b o, ad = some ⟨b, o, none⟩ ∧ b < w.heap.size ∧ ∀ i x, ps[i]? = some x → w.cell? ⟨b, o + i, none⟩ = some (.string (bs x))

theorem Sl.below {w w' : World} {ad : Option Addr} {ps : List (List UInt8)} (h : Sl w ad ps) (hb : Below w.heap.size w w') : Sl w' ad ps := by
  rcases h with h | ⟨b, o, h1, h2, h3⟩
  · exact .inl h
  · exact .inr ⟨b, o, h1, Nat.lt_of_lt_of_le h2 hb.size, fun i x hx => (hb.cell (p := ⟨b, o + i, none⟩) h2).trans (h3 i x hx)⟩

theorem own_sl {w : World} {B : Nat} {v : Value} {n : Nat} {ps : List (List UInt8)} (h : w.ownsRow B 9 1 v n (strs ps)) : ∃ ad c, v = .slice ad ps.length c ∧ ps.length ≤ c ∧ c ≤ maxLen ∧ Sl w ad ps := by
  have hn : n = ps.length := by have := h.1; rw [strs_length] at this; omega
  subst hn
  have hcells := fun g hg => h.cells (g := g) hg
  rcases h.2 with ⟨hv, h0⟩ | ⟨g, cap, cur, hv, hb, hg, hc, hm, _⟩
  · have : ps = [] := List.eq_nil_of_length_eq_zero h0
    subst this
    exact ⟨none, 0, hv, by simp, by decide, .inl rfl⟩
  · refine ⟨_, cap, hv, hc, hm, .inr ⟨g, 0, rfl, (Array.getElem?_eq_some_iff.1 hg).1, fun i x hx => ?_⟩⟩
    have := hcells g (by rw [hv]; rfl) i _ (strs_get ps i x hx)
    by_cases hi : i = 0
    · subst hi; simpa [Addr.add] using this
    · simpa [Addr.add, hi] using this

theorem join_w (ad : Option Addr) (c : Nat) (ps : List (List UInt8)) (w : World) (h : Sl w ad ps) (hc : ps.length ≤ c) (hn : ps.length ≤ 140737488355328) (hl : (jn ps).length ≤ 140737488355328) :
    Calls Tryz.prog 12 #[.slice ad ps.length c] w fun e w' => e = .returned (.string (bs (jn ps))) ∧ Below w.heap.size w w' := by
  have q : Calls Tryz.prog 30 #[.slice ad ps.length c, .string ⟨#[47]⟩] w fun e w' => e = .returned (.string (bs (jn ps))) ∧ Below w.heap.size w w' := by
    rcases h with h | ⟨b, o, h1, h2, h3⟩
    · subst h
      exact (Tryz.strings_Join_none ad c ⟨#[47]⟩ w).mono fun e w' ⟨he, hw⟩ => ⟨he, hw ▸ Below.refl _ _⟩
    · subst h1
      have e1 : (ps.map bs).map (·.data.toList) = ps := by rw [List.map_map]; exact (List.map_congr_left fun x _ => bs_data x).trans (List.map_id _)
      have := Tryz.strings_Join b o c (ps.map bs) ⟨#[47]⟩ w (fun j x hx => by
        rw [List.getElem?_map] at hx
        obtain ⟨y, hy, rfl⟩ := Option.map_eq_some_iff.1 hx
        exact h3 j y hy) h2 (by simpa using hn) (by simpa using hc) (by rw [e1]; exact hl)
      rw [e1, List.length_map] at this
      exact this
  generalize ps.length = n at *
  go_enter Tryz.func12, Tryz.ntmps12
  go_wp2_with (go_at_call 30; refine q.mono ?_; rintro e w1 ⟨rfl, b1⟩)
  go_ret
  exact ⟨rfl, b1⟩

theorem split_sl (w : World) (S : List (List UInt8)) : Sl (w.alloc (.cells (strs S).toArray 9)) (some ⟨w.heap.size, 0, none⟩) S :=
  .inr ⟨_, _, rfl, by simp, fun i x hx => by rw [Nat.zero_add]; exact split_cell w _ _ S (Below.refl _ _) i x hx⟩

/-! Under -/

/-- does a text begin with another one, and go on with a slash, or not at all? -/
def und (d s : List UInt8) : Bool := Lib.hasPrefix s d && (d.isEmpty || (s.drop d.length).isEmpty || decide ((s.drop d.length).head? = some 47))

theorem _root_.Go.RowKit.Below.drewN' {B : Nat} {a w : World} (h : Below B a w) : ∀ n, Below B a (w.drewN n)
  | 0 => h
  | n + 1 => (Go.RowKit.Below.drewN' h n).drew

end Go.Proofs.YtojbfdlgjjghjaaGreatDoor
