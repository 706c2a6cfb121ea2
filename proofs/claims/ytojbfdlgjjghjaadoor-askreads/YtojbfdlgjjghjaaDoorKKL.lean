/-
  From what the rows list to what the walks are told; a world that meets it.
-/
import Derived.Test.YtojbfdlgjjghjaaDoorKKa
import Derived.Test.YtojbfdlgjjghjaaDoorRows
import Derived.Stop.LaidErr
import Derived.LaidLaws
import Derived.Lib.LaidTab
import Derived.SevenTiedAt
import Derived.ChangeMaps5
import Derived.ProofKit
import Derived.OpenShut
namespace Go.Proofs.YtojbfdlgjjghjaaDoor
open Go.ChangeShapes Go.WideShapes Go.RowKit
set_option linter.unusedVariables false

theorem own : ownKnob Tryd.prog.godebug = none := by kernel_rfl
theorem laidOut : laidOutB Tryd.prog = true := by kernel_rfl

/-- The variables that the rows list. -/
def six {H : Type} : List (String × DataW H) := [("math/bits.deBruijn32tab", Rows.laid_math_bits_deBruijn32tab), ("math/bits.deBruijn64tab", Rows.laid_math_bits_deBruijn64tab), ("internal/strconv.uint64pow10", Rows.laid_internal_strconv_uint64pow10), ("strconv.ErrRange", Rows.laid_strconv_ErrRange), ("strconv.ErrSyntax", Rows.laid_strconv_ErrSyntax), ("pannier/ask.words", Rows.laid_pannier_ask_words)]

theorem star : "*" ++ "errors.errorString" = "*errors.errorString" := by decide
theorem rowPtr (u : TypeId) (h : Tryd.prog.typeName? 3 u = some "*errors.errorString") : u = 104 :=
  typeName_ptr_named (nm := "errors.errorString") (by rw [star]; kernel_rfl) (by kernel_rfl) (by decide) u (by rw [star]; exact h)

/-- an array of texts that reads as a table of texts holds them, cell by cell -/
theorem cells_of_strs {H : Type} {enc : TypeId × Value → H} {P : Program} {w : World} {base : Nat} {sp : Nat → Bool} {held : Bool} {fuel : Nat} {t e : TypeId} {n : Nat} {cs : List Value} {zs : List (List UInt8)} {p : List MemPlace}
    (ht : P.underlying t = some (.array n e)) (he : P.underlying e = some .string) (hce : P.cellsOf e = 1) (hct : P.cellsOf t = n)
    (h : DataW.trod enc P w base sp held fuel t cs = some (DataW.agg (zs.map fun z => DataW.lit (Lit.string z)), p)) : ∀ (i : Nat) (z : List UInt8), zs[i]? = some z → cs[i]? = some (Value.string ⟨z.toArray⟩) := by
  cases fuel with
  | zero => simp [DataW.trod] at h
  | succ fuel =>
    simp only [DataW.trod, ht, hce, hct, Nat.mul_one] at h
    split at h
    · rename_i hl
      obtain ⟨xs, hm, hx⟩ := Option.map_eq_some_iff.1 h
      have hxs : xs.map (·.1) = zs.map fun z => (DataW.lit (.string z) : DataW H) := by
        have := congrArg Prod.fst hx
        simpa using this
      have hxl : xs.length = n := by simpa using Lib.mapM_length hm
      have hzl : zs.length = n := by
        have := congrArg List.length hxs
        simp at this
        omega
      intro i z hz
      have hi : i < n := by have := (List.getElem?_eq_some_iff.1 hz).1; omega
      obtain ⟨b, hb, hf⟩ := Lib.mapM_at hm i i (by simp [hi])
      obtain ⟨s, hc, rfl, _⟩ := DataW.trod_string he hf
      have h1 : cs[i]? = some (.string s) := by
        have := congrArg (·[0]?) hc
        simpa [List.getElem?_take, List.getElem?_drop] using this
      have h2 : (xs.map (·.1))[i]? = some (DataW.lit (.string s.data.toList) : DataW H) := by simp [hb]
      rw [hxs] at h2
      simp only [List.getElem?_map, hz, Option.map_some, Option.some.injEq, DataW.lit.injEq, Lit.string.injEq] at h2
      rw [h1, h2]
    · cases h

theorem words_of_head {P : Program} {W : World} {name : String} {zs : List (List UInt8)} {rest : List (String × DataW Unit)} {g : Nat} {t e : TypeId} {n : Nat}
    (hg : P.globalNamed name = some g) (hty : (P.globals[g]?).map (·.type) = some t) (ht : P.underlying t = some (.array n e)) (he : P.underlying e = some .string) (hce : P.cellsOf e = 1) (hct : P.cellsOf t = n)
    (h : laidMet P ((name, DataW.agg (zs.map fun z => DataW.lit (Lit.string z))) :: rest) W) : ∀ (i : Nat) (z : List UInt8), zs[i]? = some z → W.cell? ⟨g, i, none⟩ = some (Value.string ⟨z.toArray⟩) := by
  obtain ⟨ps, ⟨g', t', cs, fuel, p, q, hg', ht', hvar, hd, _, _⟩, _⟩ := h
  obtain rfl := Option.some.inj (hg.symm.trans hg')
  obtain rfl := Option.some.inj (hty.symm.trans ht')
  intro i z hz
  have h1 := cells_of_strs ht he hce hct hd i z hz
  have h2 := World.var?_cell hg hvar i
  rw [h2]
  simpa using h1

def wordsL : List (List UInt8) := [[], [111, 112, 101, 110], [115, 101, 110, 100], [99, 111, 109, 109, 105, 116], [97, 98, 111, 114, 116], [108, 105, 115, 116], [115, 116, 97, 116], [100, 101, 108, 101, 116, 101], [103, 101, 116], [112, 117, 108, 108], [99, 108, 111, 115, 101], [116, 105, 99, 107]]
theorem wordsL_wd (i : Nat) (h : i < 12) : ∃ z, wordsL[i]? = some z ∧ K.wd i = ⟨z.toArray⟩ := by
  match i, h with
  | 0, _ | 1, _ | 2, _ | 3, _ | 4, _ | 5, _ | 6, _ | 7, _ | 8, _ | 9, _ | 10, _ | 11, _ => exact ⟨_, rfl, rfl⟩
  | n + 12, h' => exact absurd h' (by omega)

theorem met {W : World} (h : laidMetH Tryd.prog six W) : K.Vs W := by
  have h' : laidMet Tryd.prog [("math/bits.deBruijn32tab", Rows.laid_math_bits_deBruijn32tab), ("math/bits.deBruijn64tab", Rows.laid_math_bits_deBruijn64tab), ("internal/strconv.uint64pow10", Lib.tabData .u64 Lib.pow10Tab), ("strconv.ErrRange", Rows.laid_strconv_ErrRange), ("strconv.ErrSyntax", Rows.laid_strconv_ErrSyntax), ("pannier/ask.words", DataW.agg (wordsL.map fun z => DataW.lit (Lit.string z)))] W := h
  have h1 := h'.tail.tail
  have h2 := h1.tail
  have h3 := h2.tail
  have h4 := h3.tail
  obtain ⟨a0, s0, hv0, -, -, -⟩ := laid_sentinel h2 (g := 3) (ti := 61) (tp := 104) (te := 106) (ts := 9) (by kernel_rfl) (by kernel_rfl) Tryd.underlying61 rowPtr Tryd.underlying104 Tryd.underlying106 rfl rfl Tryd.underlying9 (by kernel_rfl) (by kernel_rfl)
  obtain ⟨a1, s1, hv1, -, -, -⟩ := laid_sentinel h3 (g := 2) (ti := 61) (tp := 104) (te := 106) (ts := 9) (by kernel_rfl) (by kernel_rfl) Tryd.underlying61 rowPtr Tryd.underlying104 Tryd.underlying106 rfl rfl Tryd.underlying9 (by kernel_rfl) (by kernel_rfl)
  have hw := words_of_head (g := 0) (t := 58) (e := 9) (n := 12) (by kernel_rfl) (by kernel_rfl) Tryd.underlying58 Tryd.underlying9 (by kernel_rfl) (by kernel_rfl) h4
  refine ⟨Lib.tabIs_of_head (g := 4) (by kernel_rfl) (by kernel_rfl) Tryd.underlying101 Tryd.underlying79 (by kernel_rfl) (by kernel_rfl) h1, ⟨104, .pointer (some a1), ?_⟩, ⟨104, .pointer (some a0), ?_⟩, fun i hi => ?_⟩
  · have h0 := World.var?_cell (g := 2) (by kernel_rfl) hv1 0
    simpa using h0
  · have h0 := World.var?_cell (g := 3) (by kernel_rfl) hv0 0
    simpa using h0
  · obtain ⟨z, h5, h6⟩ := wordsL_wd i hi
    rw [h6]
    exact hw i z h5

def cellsIn : DataW Unit → Array Value
  | .agg ps => (ps.map fun | .lit (.int k n) => Value.int k n | .lit (.string z) => Value.string ⟨z.toArray⟩ | _ => .nilIface).toArray
  | _ => #[]
def hold (cs : Array Value) : Obj → Obj
  | .cells _ t frozen => .cells cs t frozen
  | o => o
def synS : ByteArray := ⟨#[105, 110, 118, 97, 108, 105, 100, 32, 115, 121, 110, 116, 97, 120]⟩
def rngS : ByteArray := ⟨#[118, 97, 108, 117, 101, 32, 111, 117, 116, 32, 111, 102, 32, 114, 97, 110, 103, 101]⟩
noncomputable def low : Nat := (World.holding Tryd.prog default ⟨#[], #[], []⟩).heap.size
/-- A world that meets them. -/
noncomputable def start (os : Os) : World :=
  let w0 := World.holding Tryd.prog os ⟨#[.cells #[.string synS] 106, .cells #[.string rngS] 106], #[], []⟩
  { w0 with heap := (((((w0.heap.modify 2 (hold #[.iface 104 (.pointer (some ⟨low, 0, none⟩))])).modify 3 (hold #[.iface 104 (.pointer (some ⟨low + 1, 0, none⟩))])).modify 4 (hold (cellsIn Rows.laid_internal_strconv_uint64pow10))).modify 5 (hold (cellsIn Rows.laid_math_bits_deBruijn32tab))).modify 6 (hold (cellsIn Rows.laid_math_bits_deBruijn64tab))).modify 0 (hold (cellsIn Rows.laid_pannier_ask_words)) }

theorem lit_i64 {z : Int} (h : (Lit.int .i64 z).wf = true) : -9223372036854775808 ≤ z ∧ z ≤ 9223372036854775807 := by
  have h' : IntKind.i64.min ≤ z ∧ z ≤ IntKind.i64.max := by simpa [Lit.wf] using h
  have e1 : IntKind.i64.min = -9223372036854775808 := by decide
  have e2 : IntKind.i64.max = 9223372036854775807 := by decide
  omega

end Go.Proofs.YtojbfdlgjjghjaaDoor
