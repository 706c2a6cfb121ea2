/-
  EntryMakes: what both answer.
-/
import Derived.Test.YtjnmmkohmfhnlaaDoorOpa
import Derived.Test.YtjnmmkohmfhnlaaDoorRf2
namespace Go.Proofs.YtjnmmkohmfhnlaaDoor
open Go.ChangeShapes Go.WideShapes Go.RowKit
set_option linter.unusedVariables false
set_option linter.unusedSimpArgs false

theorem both (x : Hd) (a : Ah) (w : World) (hV : Vs w) (fx : HdFit x) (fa : AhFit a w) (n1 : a.ln ≤ 70) (n2 : a.gn ≤ 70) :
    ∃ (E : En) (c : Int), (∀ W, Below w.heap.size w W → Calls Tryd.prog 10 #[.agg x.cells, .agg a.cells] W fun ev w' => ev = .returned (.tuple #[.agg E.cells, .int .i64 c]) ∧ Below W.heap.size W w') ∧
      (∀ W v1 v2, Lst W v1 a.lK a.lV a.ln → Lst W v2 a.gK a.gV a.gn → Calls Tryd.prog 11 #[.agg x.rcells, v1, v2, .string a.name, .string a.link] W fun ev w' => ev = .returned (.tuple #[.agg E.cells, .int .i64 c]) ∧ Below W.heap.size W w') := by
  have hv : ∀ k, (a.val k).size ≤ 281474976710656 := fun k => by have := fa.val k; omega
  have fit : ∀ W, Below w.heap.size w W → Fit x a W := fun W hb => ⟨⟨fa.g.1.below hb, fa.l.1.below hb⟩, by have := fx.prefx; omega, by have := fx.name; omega, by have := fa.name; omega, hv⟩
  have hf : x.full.size ≤ 281474976710657 := by
    have := fx.prefx
    have := fx.name
    unfold Hd.full; split
    · omega
    · rw [ByteArray.size_append, ByteArray.size_append]; show x.prefx.size + 1 + x.name.size ≤ _; omega
  have ht : (tx x a 0).size ≤ 9223372036854775807 := Nat.le_trans (or3_size _ _ _ 281474976710657 (by have := hv (ky 0); omega) (by have := fa.name; show a.name.size ≤ _; omega) hf) (by omega)
  have rm := fun W v1 v2 (h1 : Lst W v1 a.lK a.lV a.ln) (h2 : Lst W v2 a.gK a.gV a.gn) => rmake_w x ⟨v2, v1, a.gK, a.gV, a.gn, a.lK, a.lV, a.ln, a.name, a.link⟩ W h1 h2 n1 n2 fx hv ht
  by_cases hk : kd x.typ = 0
  · refine ⟨zeroE, 80, fun W hb => make_kind (fit W hb) (hV.below hb) hk, fun W v1 v2 h1 h2 => (rm W v1 v2 h1 h2).mono fun ev w' ⟨h, b⟩ => ⟨?_, b⟩⟩
    rcases h with ⟨_, e⟩ | ⟨k, _⟩ | ⟨k, _⟩ | ⟨k, _⟩
    · exact e
    all_goals exact absurd hk k
  by_cases hb : badN x a
  · refine ⟨zeroE, 70, fun W hw => make_bad (fit W hw) (hV.below hw) hk hb, fun W v1 v2 h1 h2 => (rm W v1 v2 h1 h2).mono fun ev w' ⟨h, b⟩ => ⟨?_, b⟩⟩
    rcases h with ⟨k, _⟩ | ⟨_, _, e⟩ | ⟨_, k, _⟩ | ⟨_, k, _⟩
    · exact absurd k hk
    · exact e
    all_goals exact absurd hb k
  by_cases hn : neg x a
  · refine ⟨zeroE, 90, fun W hw => make_neg (fit W hw) (hV.below hw) hk hb hn, fun W v1 v2 h1 h2 => (rm W v1 v2 h1 h2).mono fun ev w' ⟨h, b⟩ => ⟨?_, b⟩⟩
    rcases h with ⟨k, _⟩ | ⟨_, k, _⟩ | ⟨_, _, _, e⟩ | ⟨_, _, k, _⟩
    · exact absurd k hk
    · exact absurd k hb
    · exact e
    · exact absurd hn k
  · refine ⟨fullE x a, 0, fun W hw => make_ok (fit W hw) (hV.below hw) hk hb hn, fun W v1 v2 h1 h2 => (rm W v1 v2 h1 h2).mono fun ev w' ⟨h, b⟩ => ⟨?_, b⟩⟩
    rcases h with ⟨k, _⟩ | ⟨_, k, _⟩ | ⟨_, _, k, _⟩ | ⟨_, _, _, e⟩
    · exact absurd k hk
    · exact absurd k hb
    · exact absurd k hn
    · exact e

/-- The state ahead of the document's answer. -/
structure Pm (w W : World) (e3 : Nat) (E : En) (x : Hd) (a : Ah) : Prop where
  bel : Below w.heap.size w W
  ent : EntAt W e3 E
  hdr : W.heap[e3 + 1]? = some (.cells x.rcells 36 (0, 0))
  box : W.heap[w.heap.size + 1]? = some (.cells a.cells 26 (0, 0))
theorem Pm.grow {w W W' : World} {e3 : Nat} {E : En} {x : Hd} {a : Ah} (p : Pm w W e3 E x a) (hb : Below W.heap.size W W') : Pm w W' e3 E x a :=
  ⟨p.bel.trans (hb.mono p.bel.size), p.ent.grow hb, (hb.block _ (Array.getElem?_eq_some_iff.1 p.hdr).1).trans p.hdr, (hb.block _ (Array.getElem?_eq_some_iff.1 p.box).1).trans p.box⟩
theorem Pm.hc {w W : World} {e3 : Nat} {E : En} {x : Hd} {a : Ah} (p : Pm w W e3 E x a) (m : Nat) : W.cell? ⟨e3 + 1, m, none⟩ = x.rcells[m]? := by simp [World.cell?, p.hdr]
theorem Pm.ac {w W : World} {e3 : Nat} {E : En} {x : Hd} {a : Ah} (p : Pm w W e3 E x a) (m : Nat) : W.cell? ⟨w.heap.size + 1, m, none⟩ = a.cells[m]? := by simp [World.cell?, p.box]

theorem pm_start (w w3 : World) (E : En) (x : Hd) (a : Ah) (b3 : Below w.heap.size w w3) (hB : Boxed w3 w.heap.size x a) : Pm w ((w3.alloc (.cells E.cells 29)).alloc (.cells x.rcells 36)) w3.heap.size E x a := by
  have z1 : (w3.alloc (.cells E.cells 29)).heap.size = w3.heap.size + 1 := by simp
  have b4 := b3.alloc b3.size (.cells E.cells 29)
  have e4 : EntAt (w3.alloc (.cells E.cells 29)) w3.heap.size E := heap_alloc_new _ _
  have B4 := hB.grow ((Below.refl _ _).alloc (Nat.le_refl _) (.cells E.cells 29))
  generalize w3.alloc (.cells E.cells 29) = w4 at *
  have g : Below w4.heap.size w4 (w4.alloc (.cells x.rcells 36)) := (Below.refl _ _).alloc (Nat.le_refl _) _
  refine ⟨b4.alloc b4.size _, e4.grow g, ?_, (B4.grow g).y⟩
  rw [← z1]; exact heap_alloc_new _ _

def ZAt (W : World) (g : Nat) : Prop := W.heap[g]? = some (.cells zeroE.cells 29 (0, 0))
theorem zat_of {W W' : World} (hb : Below (W.alloc (.cells #[.string ⟨#[]⟩, .string ⟨#[]⟩, .int .i64 0, .int .i64 0, .int .i64 0, .int .i64 0, .int .i64 0, .int .i64 0, .string ⟨#[]⟩, .string ⟨#[]⟩] 29)).heap.size (W.alloc (.cells #[.string ⟨#[]⟩, .string ⟨#[]⟩, .int .i64 0, .int .i64 0, .int .i64 0, .int .i64 0, .int .i64 0, .int .i64 0, .string ⟨#[]⟩, .string ⟨#[]⟩] 29)) W') : ZAt W' W.heap.size := by
  have h := heap_alloc_new W (.cells #[.string ⟨#[]⟩, .string ⟨#[]⟩, .int .i64 0, .int .i64 0, .int .i64 0, .int .i64 0, .int .i64 0, .int .i64 0, .string ⟨#[]⟩, .string ⟨#[]⟩] 29)
  exact (hb.block _ (Array.getElem?_eq_some_iff.1 h).1).trans h
theorem zat_ofd {W W' : World} (hb : Below (W.alloc (.cells #[.string ⟨#[]⟩, .string ⟨#[]⟩, .int .i64 0, .int .i64 0, .int .i64 0, .int .i64 0, .int .i64 0, .int .i64 0, .string ⟨#[]⟩, .string ⟨#[]⟩] 29)).drew.heap.size (W.alloc (.cells #[.string ⟨#[]⟩, .string ⟨#[]⟩, .int .i64 0, .int .i64 0, .int .i64 0, .int .i64 0, .int .i64 0, .int .i64 0, .string ⟨#[]⟩, .string ⟨#[]⟩] 29)).drew W') : ZAt W' W.heap.size := by
  have h := heap_alloc_new W (.cells #[.string ⟨#[]⟩, .string ⟨#[]⟩, .int .i64 0, .int .i64 0, .int .i64 0, .int .i64 0, .int .i64 0, .int .i64 0, .string ⟨#[]⟩, .string ⟨#[]⟩] 29)
  exact (hb.block _ (Array.getElem?_eq_some_iff.1 h).1).trans h
theorem ZAt.grow {W W' : World} {g : Nat} (z : ZAt W g) (hb : Below W.heap.size W W') : ZAt W' g := (hb.block _ (Array.getElem?_eq_some_iff.1 z).1).trans z
theorem ZAt.facts {W : World} {g : Nat} (z : ZAt W g) : (∀ m, W.frozen? ⟨g, m, none⟩ = false) ∧ W.cell? ⟨g, 0, none⟩ = some (.string ⟨#[]⟩) ∧ W.cell? ⟨g, 1, none⟩ = some (.string ⟨#[]⟩) ∧ W.cell? ⟨g, 2, none⟩ = some (.int .i64 0) ∧ W.cell? ⟨g, 3, none⟩ = some (.int .i64 0) ∧ W.cell? ⟨g, 4, none⟩ = some (.int .i64 0) ∧ W.cell? ⟨g, 5, none⟩ = some (.int .i64 0) ∧ W.cell? ⟨g, 6, none⟩ = some (.int .i64 0) ∧ W.cell? ⟨g, 7, none⟩ = some (.int .i64 0) ∧ W.cell? ⟨g, 8, none⟩ = some (.string ⟨#[]⟩) ∧ W.cell? ⟨g, 9, none⟩ = some (.string ⟨#[]⟩) := by
  have key : ∀ m, W.cell? ⟨g, m, none⟩ = zeroE.cells[m]? := fun m => by unfold ZAt at z; simp [World.cell?, z]
  exact ⟨fun m => by unfold ZAt at z; simp [World.frozen?, z], key 0, key 1, key 2, key 3, key 4, key 5, key 6, key 7, key 8, key 9⟩

end Go.Proofs.YtjnmmkohmfhnlaaDoor
