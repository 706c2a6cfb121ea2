/-
  From what the rows list to what the walks are told: the places of the fields.
-/
import Derived.Test.YtmholjjicklnhabDoorReads
import Derived.Test.YtmholjjicklnhabDoorRows
import Derived.Stop.LaidErr
import Derived.LaidLaws
import Derived.Lib.LaidTab
import Derived.ChangeSame
import Derived.SevenTiedAt
namespace Go.Proofs.YtmholjjicklnhabDoor
open Go.ChangeShapes Go.WideShapes Go.RowKit
set_option linter.unusedVariables false

def placeD (a b : Int) : DataW Unit := .agg [.lit (.int .i64 a), .lit (.int .i64 b)]

theorem cells54 : Tryd.prog.cellsOf 54 = 2 := by kernel_rfl
theorem cells3 : Tryd.prog.cellsOf 3 = 1 := by kernel_rfl

theorem place_cells {enc : TypeId × Value → Unit} {w : World} {base : Nat} {sp : Nat → Bool} {held : Bool} {fuel : Nat} {cs : List Value} {a b : Int} {p : List MemPlace}
    (h : DataW.trod enc Tryd.prog w base sp held fuel 54 cs = some (placeD a b, p)) : cs = [.int .i64 a, .int .i64 b] := by
  obtain ⟨y0, y1, n, hx, hl, h0, h1⟩ := trod_struct2 Tryd.underlying54 h
  rw [cells54] at hl
  obtain ⟨c0, c1, rfl⟩ : ∃ c0 c1, cs = [c0, c1] := by
    match cs, hl with
    | [c0, c1], _ => exact ⟨c0, c1, rfl⟩
  obtain ⟨z0, e0, rfl, _⟩ := DataW.trod_int Tryd.underlying3 h0
  obtain ⟨z1, e1, rfl, _⟩ := DataW.trod_int Tryd.underlying3 h1
  simp [cells3] at e0 e1
  simp [placeD] at hx
  obtain ⟨⟨rfl, rfl⟩, _⟩ := hx
  rw [e0, e1]

theorem place_of_head {W : World} {name : String} {a b : Int} {rest : List (String × DataW Unit)} {g : Nat}
    (hg : Tryd.prog.globalNamed name = some g) (hty : (Tryd.prog.globals[g]?).map (·.type) = some 54) (h : laidMet Tryd.prog ((name, placeD a b) :: rest) W) :
    W.cell? ⟨g, 0, none⟩ = some (.int .i64 a) ∧ W.cell? ⟨g, 1, none⟩ = some (.int .i64 b) := by
  obtain ⟨ps, ⟨g', t', cs, fuel, p, q, hg', ht', hvar, hd, _, _⟩, _⟩ := h
  obtain rfl := Option.some.inj (hg.symm.trans hg')
  obtain rfl := Option.some.inj (hty.symm.trans ht')
  have hcs : cs = #[.int .i64 a, .int .i64 b] := by have := place_cells hd; cases cs; simp_all
  rw [hcs] at hvar
  have h0 := World.var?_cell hg hvar 0
  have h1 := World.var?_cell hg hvar 1
  exact ⟨by simpa using h0, by simpa using h1⟩

theorem cells58 : Tryd.prog.cellsOf 58 = 10 := by kernel_rfl

theorem five_cells {enc : TypeId × Value → Unit} {w : World} {base : Nat} {sp : Nat → Bool} {held : Bool} {fuel : Nat} {cs : List Value} {p : List MemPlace}
    (h : DataW.trod enc Tryd.prog w base sp held fuel 58 cs = some (.agg [placeD 100 108, placeD 108 116, placeD 116 124, placeD 124 136, placeD 136 148], p)) :
    ∀ i, i < 5 → (cs.drop (i * 2)).take 2 = [.int .i64 (numB i : Int), .int .i64 (numE i : Int)] := by
  cases fuel with
  | zero => simp [DataW.trod] at h
  | succ fuel =>
    simp only [DataW.trod, Tryd.underlying58, cells58, cells54] at h
    split at h
    · rename_i hl
      obtain ⟨xs, hm, hx⟩ := Option.map_eq_some_iff.1 h
      have hxs : xs.map (·.1) = [placeD 100 108, placeD 108 116, placeD 116 124, placeD 124 136, placeD 136 148] := by
        have := congrArg Prod.fst hx
        simpa using this
      intro i hi
      obtain ⟨b, hb, hf⟩ := Lib.mapM_at hm i i (by simp [hi])
      have h2 : (xs.map (·.1))[i]? = some b.1 := by simp [hb]
      rw [hxs] at h2
      obtain ⟨b1, b2⟩ := b
      rcases (show i = 0 ∨ i = 1 ∨ i = 2 ∨ i = 3 ∨ i = 4 by omega) with rfl | rfl | rfl | rfl | rfl <;>
        (simp at h2; subst h2; exact place_cells hf)
    · cases h

theorem two_cells {cs : List Value} {i : Nat} {a b : Value} (h : (cs.drop (i * 2)).take 2 = [a, b]) : cs[2 * i]? = some a ∧ cs[2 * i + 1]? = some b := by
  have h0 : ((cs.drop (i * 2)).take 2)[0]? = some a := by rw [h]; rfl
  have h1 : ((cs.drop (i * 2)).take 2)[1]? = some b := by rw [h]; rfl
  simp [List.getElem?_drop] at h0 h1
  exact ⟨by rw [← h0]; congr 1; omega, by rw [← h1]; congr 1; omega⟩

theorem five_of_head {W : World} {name : String} {rest : List (String × DataW Unit)} {g : Nat}
    (hg : Tryd.prog.globalNamed name = some g) (hty : (Tryd.prog.globals[g]?).map (·.type) = some 58) (h : laidMet Tryd.prog ((name, .agg [placeD 100 108, placeD 108 116, placeD 116 124, placeD 124 136, placeD 136 148]) :: rest) W) :
    ∀ i, i < 5 → W.cell? ⟨g, 2 * i, none⟩ = some (.int .i64 (numB i : Int)) ∧ W.cell? ⟨g, 2 * i + 1, none⟩ = some (.int .i64 (numE i : Int)) := by
  obtain ⟨ps, ⟨g', t', cs, fuel, p, q, hg', ht', hvar, hd, _, _⟩, _⟩ := h
  obtain rfl := Option.some.inj (hg.symm.trans hg')
  obtain rfl := Option.some.inj (hty.symm.trans ht')
  intro i hi
  obtain ⟨e0, e1⟩ := two_cells (five_cells hd i hi)
  have h0 := World.var?_cell hg hvar (2 * i)
  have h1 := World.var?_cell hg hvar (2 * i + 1)
  rw [h0, h1]
  exact ⟨by simpa using e0, by simpa using e1⟩

/-- The variables that the rows list. -/
def seven {H : Type} : List (String × DataW H) := [("pannier/head.nameField", Rows.laid_pannier_head_nameField), ("pannier/head.linkField", Rows.laid_pannier_head_linkField), ("pannier/head.magicField", Rows.laid_pannier_head_magicField), ("pannier/head.userField", Rows.laid_pannier_head_userField), ("pannier/head.groupField", Rows.laid_pannier_head_groupField), ("pannier/head.prefixField", Rows.laid_pannier_head_prefixField), ("pannier/head.numberFields", Rows.laid_pannier_head_numberFields)]

theorem met {W : World} (h : laidMetH Tryd.prog seven W) : Laid W := by
  have h' : laidMet Tryd.prog [("pannier/head.nameField", placeD 0 100), ("pannier/head.linkField", placeD 157 257), ("pannier/head.magicField", placeD 257 265), ("pannier/head.userField", placeD 265 297), ("pannier/head.groupField", placeD 297 329), ("pannier/head.prefixField", placeD 345 500), ("pannier/head.numberFields", .agg [placeD 100 108, placeD 108 116, placeD 116 124, placeD 124 136, placeD 136 148])] W := h
  have a0 := place_of_head (g := 0) (by kernel_rfl) (by kernel_rfl) h'
  have a1 := place_of_head (g := 1) (by kernel_rfl) (by kernel_rfl) h'.tail
  have a6 := place_of_head (g := 6) (by kernel_rfl) (by kernel_rfl) h'.tail.tail
  have a3 := place_of_head (g := 3) (by kernel_rfl) (by kernel_rfl) h'.tail.tail.tail
  have a4 := place_of_head (g := 4) (by kernel_rfl) (by kernel_rfl) h'.tail.tail.tail.tail
  have a5 := place_of_head (g := 5) (by kernel_rfl) (by kernel_rfl) h'.tail.tail.tail.tail.tail
  have a2 := five_of_head (g := 2) (by kernel_rfl) (by kernel_rfl) h'.tail.tail.tail.tail.tail.tail
  exact ⟨a0.1, a0.2, a1.1, a1.2, (a2 0 (by omega)).1, (a2 0 (by omega)).2, (a2 1 (by omega)).1, (a2 1 (by omega)).2, (a2 2 (by omega)).1, (a2 2 (by omega)).2, (a2 3 (by omega)).1, (a2 3 (by omega)).2, (a2 4 (by omega)).1, (a2 4 (by omega)).2, a3.1, a3.2, a4.1, a4.2, a5.1, a5.2, a6.1, a6.2⟩

def hold (cs : Array Value) : Obj → Obj
  | .cells _ t frozen => .cells cs t frozen
  | o => o
def pl (a b : Int) : Array Value := #[.int .i64 a, .int .i64 b]
/-- A world that meets them. -/
noncomputable def start (os : Os) : World :=
  let w0 := World.holding Tryd.prog os ⟨#[], #[], []⟩
  { w0 with heap := (((((((w0.heap.modify 0 (hold (pl 0 100))).modify 1 (hold (pl 157 257))).modify 2 (hold #[.int .i64 100, .int .i64 108, .int .i64 108, .int .i64 116, .int .i64 116, .int .i64 124, .int .i64 124, .int .i64 136, .int .i64 136, .int .i64 148])).modify 3 (hold (pl 265 297))).modify 4 (hold (pl 297 329))).modify 5 (hold (pl 345 500))).modify 6 (hold (pl 257 265))) }

theorem own : ownKnob Tryd.prog.godebug = none := by kernel_rfl
theorem laidOut : laidOutB Tryd.prog = true := by kernel_rfl

end Go.Proofs.YtmholjjicklnhabDoor
