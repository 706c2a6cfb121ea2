/-
  Contract: target.Relative.
-/
import Derived.Test.YtmeaiplinkodiabDoorRep
import Derived.Test.YtmeaiplinkodiabDoorRes
namespace Go.Proofs.YtmeaiplinkodiabDoor
open Go.RowKit
open Go.Lib hiding intOf
set_option linter.unusedVariables false
set_option linter.unusedSimpArgs false

theorem sjoin_w (ad : Option Addr) (c : Nat) (ps : List (List UInt8)) (w : World) (h : Sl w ad ps) (hc : ps.length ≤ c) (hn : ps.length ≤ 140737488355328) (hl : (jn ps).length ≤ 140737488355328) :
    Calls Tryd.prog 26 #[.slice ad ps.length c, .string ⟨#[47]⟩] w fun e w' => e = .returned (.string (bs (jn ps))) ∧ Below w.heap.size w w' := by
  rcases h with h | ⟨b, o, h1, h2, h3⟩
  · subst h
    exact (Tryd.strings_Join_none ad c ⟨#[47]⟩ w).mono fun e w' ⟨he, hw⟩ => ⟨he, hw ▸ Below.refl _ _⟩
  · subst h1
    have e1 : (ps.map bs).map (·.data.toList) = ps := by rw [List.map_map]; exact (List.map_congr_left fun x _ => bs_data x).trans (List.map_id _)
    have := Tryd.strings_Join b o c (ps.map bs) ⟨#[47]⟩ w (fun j x hx => by
      rw [List.getElem?_map] at hx
      obtain ⟨y, hy, rfl⟩ := Option.map_eq_some_iff.1 hx
      exact h3 j y hy) h2 (by simpa using hn) (by simpa using hc) (by rw [e1]; exact hl)
    rw [e1, List.length_map] at this
    exact this

/-- a list in memory without its first -/
theorem Sl.tail {w : World} {b o : Nat} {x : List UInt8} {r : List (List UInt8)} (h : Sl w (some ⟨b, o, none⟩) (x :: r)) : w.cell? ⟨b, o, none⟩ = some (.string (bs x)) ∧ Sl w (some ⟨b, o + 1, none⟩) r := by
  rcases h with h | ⟨b', o', h1, h2, h3⟩
  · cases h
  · injection h1 with h1
    injection h1 with e1 e2
    subst e1 e2
    refine ⟨by simpa using h3 0 x rfl, .inr ⟨b, o + 1, rfl, h2, fun i y hy => ?_⟩⟩
    have := h3 (i + 1) y (by simpa using hy)
    rwa [show o + 1 + i = o + (i + 1) by omega]

theorem Sl.some {w : World} {ad : Option Addr} {x : List UInt8} {r : List (List UInt8)} (h : Sl w ad (x :: r)) : ∃ b o, ad = .some ⟨b, o, none⟩ := by
  rcases h with h | ⟨b, o, h1, _⟩
  · cases h
  · exact ⟨b, o, h1⟩

theorem Sl.nil (w : World) (ad : Option Addr) : Sl w ad [] := .inl rfl

theorem strip_nil_left (y : List (List UInt8)) : strip [] y = ([], y) := by simp [strip]
theorem strip_nil_right (x : List (List UInt8)) : strip x [] = (x, []) := by cases x <;> simp [strip]
theorem strip_ne (a b : List UInt8) (x y : List (List UInt8)) (h : a ≠ b) : strip (a :: x) (b :: y) = (a :: x, b :: y) := by simp [strip, h]
theorem strip_eq (a : List UInt8) (x y : List (List UInt8)) : strip (a :: x) (a :: y) = strip x y := by simp [strip]

/-- what is left of a path behind the steps up -/
theorem append_goal {W : World} (ad a2 : Option Addr) (ps qs : List (List UInt8)) (h1 : Sl W ad ps) (h2 : Sl W a2 qs) (hl : ps.length + qs.length ≤ 100000) (ty : TypeId) :
    ∃ ad' c' w', (Builtin.append_ #[24, 24] ty #[.slice ad ps.length ps.length, .slice a2 qs.length qs.length]).run Tryd.prog W = .ok (.slice ad' (ps.length + qs.length) c') w' ∧ ps.length + qs.length ≤ c' ∧ c' ≤ 9223372036854775807 ∧ Sl w' ad' (ps ++ qs) ∧ Below W.heap.size W w' := by
  by_cases h0 : qs = []
  · subst h0
    obtain ⟨i, hi, hz0, hz1, hz2⟩ := info_parts_str
    have := run_append_nothing (P := Tryd.prog) W 24 24 ty 9 i Tryd.underlying24 hi ad ps.length ps.length (Nat.le_refl _) (.slice a2 0 0) (by rw [hz1]; exact h2.src 0 (fun _ => rfl))
    exact ⟨ad, ps.length, W, by simpa using this, by simp, by omega, by rw [List.append_nil]; exact h1, Below.refl _ _⟩
  · have hpos : 1 ≤ qs.length := List.length_pos_iff.2 h0
    obtain ⟨c', w', hrun, hA, hb⟩ := append_all ad a2 ps.length qs.length ps qs h1 h2 (by omega) hl ty
    have hle := hA.le
    rw [List.length_append] at hle
    exact ⟨_, c', w', hrun, hle.1, hle.2, hA.sl, hb⟩

end Go.Proofs.YtmeaiplinkodiabDoor
