/-
  Rows in memory; contracts: find's closure.
-/
import Derived.Test.YtojnniacmmcddaaDoorUp
import Derived.Test.YtojnniacmmcddaaDoorOrd
import Derived.Deep.MidRow
namespace Go.Proofs.YtojnniacmmcddaaDoor
open Go.RowKit
open Go.Lib hiding intOf
set_option linter.unusedVariables false
set_option linter.unusedSimpArgs false

/-- a row, as far as the laws lay one -/
structure Rw where
  p : List UInt8
  id : Int
  kind : Int
  mode : Int
  size : Int
  made : Bool

def Rw.cs (r : Rw) : List Value := [.string (bs r.p), .int .i64 r.id, .int .i64 r.kind, .int .i64 r.mode, .int .i64 0, .int .i64 0, .int .i64 0, .string ⟨#[]⟩, .string ⟨#[]⟩, .string ⟨#[]⟩, .slice none 0 0, .int .i64 r.size, .bool r.made]
theorem Rw.cs_length (r : Rw) : r.cs.length = 13 := rfl

def flat (L : List Rw) : List Value := L.flatMap Rw.cs
theorem flat_nil : flat [] = [] := rfl
theorem flat_cons (r : Rw) (L : List Rw) : flat (r :: L) = r.cs ++ flat L := rfl
theorem flat_append (A B : List Rw) : flat (A ++ B) = flat A ++ flat B := by simp [flat]
theorem flat_length (L : List Rw) : (flat L).length = L.length * 13 := by
  induction L with
  | nil => rfl
  | cons r L ih => rw [flat_cons, List.length_append, ih, Rw.cs_length, List.length_cons]; omega
theorem flat_get (L : List Rw) (i j : Nat) (r : Rw) (v : Value) (h : L[i]? = some r) (hv : r.cs[j]? = some v) : (flat L)[i * 13 + j]? = some v := by
  induction L generalizing i with
  | nil => simp at h
  | cons a L ih =>
    have hj : j < 13 := by have := (List.getElem?_eq_some_iff.1 hv).1; rwa [Rw.cs_length] at this
    cases i with
    | zero =>
      simp at h; subst h
      rw [flat_cons, List.getElem?_append_left (by rw [Rw.cs_length]; omega), Nat.zero_mul, Nat.zero_add]
      exact hv
    | succ i =>
      rw [flat_cons, List.getElem?_append_right (by rw [Rw.cs_length]; omega), Rw.cs_length]
      rw [show (i + 1) * 13 + j - 13 = i * 13 + j by omega]
      exact ih i (by simpa using h)

/-- rows at an address -/
def Rs (w : World) (ad : Option Addr) (L : List Rw) : Prop := L = [] ∨ ∃ b o, ad = some ⟨b, o, none⟩ ∧ b < w.heap.size ∧ w.rangeAt b o (flat L)

theorem range_below {w w' : World} {B b o : Nat} {cs : List Value} (h : w.rangeAt b o cs) (hb : Below B w w') (hl : b < B) : w'.rangeAt b o cs := fun j v hv => by
  rw [hb.cell (p := ⟨b, o + j, none⟩) hl]; exact h j v hv

theorem Rs.below {w w' : World} {ad : Option Addr} {L : List Rw} (h : Rs w ad L) (hb : Below w.heap.size w w') : Rs w' ad L := by
  rcases h with h | ⟨b, o, h1, h2, h3⟩
  · exact .inl h
  · exact .inr ⟨b, o, h1, Nat.lt_of_lt_of_le h2 hb.size, range_below h3 hb h2⟩

theorem Rs.at {w : World} {ad : Option Addr} {L : List Rw} (h : Rs w ad L) {i : Nat} {r : Rw} (hi : L[i]? = some r) : ∃ b o, ad = some ⟨b, o, none⟩ ∧ b < w.heap.size ∧ w.rangeAt b (o + i * 13) r.cs := by
  rcases h with h | ⟨b, o, h1, h2, h3⟩
  · subst h; simp at hi
  · refine ⟨b, o, h1, h2, fun j v hv => ?_⟩
    rw [Nat.add_assoc]
    exact h3 _ _ (flat_get L i j r v hi hv)

theorem below_box (w : World) (o : Obj) : Below w.heap.size w (w.alloc o) := (Below.refl _ w).alloc (Nat.le_refl _) o
theorem size_box (w : World) (o : Obj) : (w.alloc o).heap.size = w.heap.size + 1 := by unfold World.alloc; exact Array.size_push _

set_option maxHeartbeats 1000000 in
theorem key_w (r : Rw) (s : List UInt8) (w : World) (h1 : r.p.length ≤ 4611686018427387903) (h2 : s.length ≤ 4611686018427387903) :
    Calls Tryd.prog 67 #[.agg r.cs.toArray, .string (bs s)] w fun e w' => e = .returned (.int .i64 (cmpL r.p s)) ∧ Below w.heap.size w w' := by
  have q := fun W => compare_w r.p s h1 h2 W
  unfold Rw.cs
  generalize cmpL r.p s = z at *
  generalize bs r.p = p at *
  generalize bs s = t at *
  go_enter Tryd.func67, Tryd.ntmps67
  go_wp2_with (go_at_call 68; refine (q _).mono ?_; rintro e w1 ⟨rfl, b1⟩)
  go_ret
  exact ⟨rfl, (below_box w _).trans (b1.mono (by rw [size_box]; omega))⟩

end Go.Proofs.YtojnniacmmcddaaDoor
