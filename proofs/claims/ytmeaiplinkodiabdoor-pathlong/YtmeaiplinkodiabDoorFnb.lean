/-
  Contracts: path.Join, path.Parts, path.Under.
-/
import Derived.Test.YtmeaiplinkodiabDoorStr
import Derived.Test.YtmeaiplinkodiabDoorPl1
import Derived.BigQuiet
import Derived.Deep.QuietTactic
namespace Go.Proofs.YtmeaiplinkodiabDoor
open Go.RowKit
open Go.Lib hiding intOf
set_option linter.unusedVariables false
set_option linter.unusedSimpArgs false

/-- strings lie at an address -/
def Sl (w : World) (ad : Option Addr) (ps : List (List UInt8)) : Prop :=
  ps = [] ∨ ∃ b o, ad = some ⟨b, o, none⟩ ∧ b < w.heap.size ∧ ∀ i x, ps[i]? = some x → w.cell? ⟨b, o + i, none⟩ = some (.string (bs x))

theorem Sl.below {w w' : World} {ad : Option Addr} {ps : List (List UInt8)} (h : Sl w ad ps) (hb : Below w.heap.size w w') : Sl w' ad ps := by
  rcases h with h | ⟨b, o, h1, h2, h3⟩
  · exact .inl h
  · exact .inr ⟨b, o, h1, Nat.lt_of_lt_of_le h2 hb.size, fun i x hx => (hb.cell (p := ⟨b, o + i, none⟩) h2).trans (h3 i x hx)⟩

theorem own_sl {w : World} {B : Nat} {v : Value} {n : Nat} {ps : List (List UInt8)} (h : w.ownsRow B 9 1 v n (strs ps)) : ∃ ad c, v = .slice ad ps.length c ∧ ps.length ≤ c ∧ c ≤ maxLen ∧ Sl w ad ps := by
  have hn : n = ps.length := by have := h.1; rw [strs_length] at this; omega
  subst hn
  have hcells := fun g hg => h.cells (g := g) hg
  rcases h.2 with ⟨hv, h0⟩ | ⟨g, cap, cur, hv, hb, hg, hc, hm, _⟩
  · have : ps = [] := List.eq_nil_of_length_eq_zero h0
    subst this
    exact ⟨none, 0, hv, by simp, by decide, .inl rfl⟩
  · refine ⟨_, cap, hv, hc, hm, .inr ⟨g, 0, rfl, (Array.getElem?_eq_some_iff.1 hg).1, fun i x hx => ?_⟩⟩
    have := hcells g (by rw [hv]; rfl) i _ (strs_get ps i x hx)
    by_cases hi : i = 0
    · subst hi; simpa [Addr.add] using this
    · simpa [Addr.add, hi] using this

theorem join_w (ad : Option Addr) (c : Nat) (ps : List (List UInt8)) (w : World) (h : Sl w ad ps) (hc : ps.length ≤ c) (hn : ps.length ≤ 140737488355328) (hl : (jn ps).length ≤ 140737488355328) :
    Calls Tryd.prog 17 #[.slice ad ps.length c] w fun e w' => e = .returned (.string (bs (jn ps))) ∧ Below w.heap.size w w' := by
  have q : Calls Tryd.prog 26 #[.slice ad ps.length c, .string ⟨#[47]⟩] w fun e w' => e = .returned (.string (bs (jn ps))) ∧ Below w.heap.size w w' := by
    rcases h with h | ⟨b, o, h1, h2, h3⟩
    · subst h
      exact (Tryd.strings_Join_none ad c ⟨#[47]⟩ w).mono fun e w' ⟨he, hw⟩ => ⟨he, hw ▸ Below.refl _ _⟩
    · subst h1
      have e1 : (ps.map bs).map (·.data.toList) = ps := by rw [List.map_map]; exact (List.map_congr_left fun x _ => bs_data x).trans (List.map_id _)
      have := Tryd.strings_Join b o c (ps.map bs) ⟨#[47]⟩ w (fun j x hx => by
        rw [List.getElem?_map] at hx
        obtain ⟨y, hy, rfl⟩ := Option.map_eq_some_iff.1 hx
        exact h3 j y hy) h2 (by simpa using hn) (by simpa using hc) (by rw [e1]; exact hl)
      rw [e1, List.length_map] at this
      exact this
  generalize ps.length = n at *
  go_enter Tryd.func17, Tryd.ntmps17
  go_wp2_with (go_at_call 26; refine q.mono ?_; rintro e w1 ⟨rfl, b1⟩)
  go_ret
  exact ⟨rfl, b1⟩

/-- path.Parts of the root -/
theorem parts_root (w : World) : Calls Tryd.prog 15 #[.string (bs [])] w fun e w' => e = .returned (.slice none 0 0) ∧ w' = w := by
  have ht := bs_toList []
  go_enter Tryd.func15, Tryd.ntmps15
  go_wp2_with fail
  go_ret
  exact ⟨rfl, rfl⟩

theorem parts_some (l : List UInt8) (hne : l ≠ []) (hl : l.length < 4294967281) (w : World) (hm : Ml w) :
    Calls Tryd.prog 15 #[.string (bs l)] w fun e w' => e = .returned (.slice (some ⟨w.heap.size, 0, none⟩) (spl l).length (spl l).length) ∧ Hid (w' = w.alloc (.cells (strs (spl l)).toArray 9)) := by
  have ht := bs_toList l
  have hE : l.isEmpty = false := by simpa using hne
  have q : Calls Tryd.prog 22 #[.string (bs l), .string ⟨#[47]⟩] w fun e w' => e = .returned (.slice (some ⟨w.heap.size, 0, none⟩) (spl l).length (spl l).length) ∧ Hid (w' = w.alloc (.cells (strs (spl l)).toArray 9)) := split_w l hl w hm
  go_enter Tryd.func15, Tryd.ntmps15
  go_wp2_with (go_at_call 22; refine q.mono ?_; rintro e w1 ⟨rfl, h1⟩)
  go_ret
  exact ⟨rfl, h1⟩

theorem split_sl (w : World) (S : List (List UInt8)) : Sl (w.alloc (.cells (strs S).toArray 9)) (some ⟨w.heap.size, 0, none⟩) S :=
  .inr ⟨_, _, rfl, by simp, fun i x hx => by rw [Nat.zero_add]; exact split_cell w _ _ S (Below.refl _ _) i x hx⟩

/-- path.Parts -/
theorem parts_w (l : List UInt8) (hl : l.length < 4294967281) (w : World) (hm : Ml w) :
    Calls Tryd.prog 15 #[.string (bs l)] w fun e w' => ∃ ad, e = .returned (.slice ad (prt l).length (prt l).length) ∧ Sl w' ad (prt l) ∧ Below w.heap.size w w' := by
  by_cases h : l = []
  · subst h
    exact (parts_root w).mono fun e w' ⟨he, hw⟩ => ⟨none, he, .inl rfl, hw ▸ Below.refl _ _⟩
  · refine (parts_some l h hl w hm).mono fun e w' ⟨he, hw⟩ => ?_
    have hw' := hw.out
    subst hw'
    rw [prt, if_neg h]
    exact ⟨_, he, split_sl w _, (Below.refl _ _).alloc (Nat.le_refl _) _⟩

/-! Under -/

/-- does a text begin with another one, and go on with a slash, or not at all? -/
def und (d s : List UInt8) : Bool := Lib.hasPrefix s d && (d.isEmpty || (s.drop d.length).isEmpty || decide ((s.drop d.length).head? = some 47))

theorem under_w (d s : List UInt8) (w : World) : Calls Tryd.prog 19 #[.string (bs d), .string (bs s)] w fun e w' => e = .returned (.bool (und d s)) ∧ w' = w := by
  have q := Tryd.strings_CutPrefix (bs s) (bs d) w
  rw [bs_data, bs_data] at q
  change Calls Tryd.prog 28 _ w fun e w' => e = .returned (.tuple #[.string (bs (Lib.trimPrefix s d)), .bool (Lib.hasPrefix s d)]) ∧ w' = w at q
  have qh := fun W => slash_prefix (Lib.trimPrefix s d) W
  have hd := bs_toList d
  have ht := bs_toList (Lib.trimPrefix s d)
  cases hp : Lib.hasPrefix s d with
  | false =>
    rw [hp] at q
    have HF : Hid (und d s = false) := hid (by unfold und; rw [hp]; rfl)
    clear hp
    generalize Lib.trimPrefix s d = r at *
    go_enter Tryd.func19, Tryd.ntmps19
    go_wp2_with (first | (go_at_call 28; refine q.mono ?_; rintro e w' ⟨rfl, hw⟩; rw [hw]) | (go_at_call 29; refine (qh _).mono ?_; rintro e w' ⟨rfl, hw⟩; rw [hw]))
    go_ret
    exact ⟨by rw [HF.out]; rfl, rfl⟩
  | true =>
    rw [hp] at q
    have HF : Hid (und d s = (d.isEmpty || (Lib.trimPrefix s d).isEmpty || decide ((Lib.trimPrefix s d).head? = some 47))) := hid (by unfold und Lib.trimPrefix; rw [hp]; simp)
    clear hp
    generalize Lib.trimPrefix s d = r at *
    generalize decide (r.head? = some 47) = z at *
    cases hE : d.isEmpty with
    | true =>
      rw [hE] at HF
      go_enter Tryd.func19, Tryd.ntmps19
      go_wp2_with (first | (go_at_call 28; refine q.mono ?_; rintro e w' ⟨rfl, hw⟩; rw [hw]) | (go_at_call 29; refine (qh _).mono ?_; rintro e w' ⟨rfl, hw⟩; rw [hw]))
      go_ret
      exact ⟨by rw [HF.out]; rfl, rfl⟩
    | false =>
      rw [hE] at HF
      cases hR : r.isEmpty with
      | true =>
        rw [hR] at HF
        go_enter Tryd.func19, Tryd.ntmps19
        go_wp2_with (first | (go_at_call 28; refine q.mono ?_; rintro e w' ⟨rfl, hw⟩; rw [hw]) | (go_at_call 29; refine (qh _).mono ?_; rintro e w' ⟨rfl, hw⟩; rw [hw]))
        go_ret
        exact ⟨by rw [HF.out]; rfl, rfl⟩
      | false =>
        rw [hR] at HF
        go_enter Tryd.func19, Tryd.ntmps19
        go_wp2_with (first | (go_at_call 28; refine q.mono ?_; rintro e w' ⟨rfl, hw⟩; rw [hw]) | (go_at_call 29; refine (qh _).mono ?_; rintro e w' ⟨rfl, hw⟩; rw [hw]))
        go_ret
        exact ⟨by rw [HF.out]; cases z <;> rfl, rfl⟩

theorem _root_.Go.RowKit.Below.drewN' {B : Nat} {a w : World} (h : Below B a w) : ∀ n, Below B a (w.drewN n)
  | 0 => h
  | n + 1 => (Go.RowKit.Below.drewN' h n).drew

end Go.Proofs.YtmeaiplinkodiabDoor
