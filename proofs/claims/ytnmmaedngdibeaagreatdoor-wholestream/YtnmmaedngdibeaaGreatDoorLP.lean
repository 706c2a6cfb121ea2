/-
  From what the row lists, and a world's shape, to what the walks of push are told; a world that meets it.
-/
import Derived.Test.YtnmmaedngdibeaaGreatDoorQall
import Derived.ChangeSame
import Derived.Test.YtnmmaedngdibeaaGreatDoorRows
import Derived.Stop.LaidErr
import Derived.Stop.Joined
import Derived.LaidHandle
import Derived.Shelf.Vars
import Derived.LaidLaws
import Derived.Lib.LaidTab
import Derived.SevenTiedAt
import Derived.ChangeMaps5
import Derived.ProofKit
import Derived.OpenShut
namespace Go.Proofs.YtnmmaedngdibeaaGreatDoor
open Go.ChangeShapes Go.WideShapes Go.RowKit
set_option linter.unusedVariables false

theorem own : ownKnob Tryz.prog.godebug = none := by kernel_rfl
theorem laidOut : laidOutB Tryz.prog = true := by kernel_rfl

/-- The variables that the rows list. -/
def many {H : Type} : List (String × DataW H) := [("math/bits.deBruijn32tab", Rows.laid_math_bits_deBruijn32tab), ("math/bits.deBruijn64tab", Rows.laid_math_bits_deBruijn64tab), ("internal/strconv.uint64pow10", Rows.laid_internal_strconv_uint64pow10), ("errors.errorType", Rows.laid_errors_errorType), ("strconv.ErrRange", Rows.laid_strconv_ErrRange), ("strconv.ErrSyntax", Rows.laid_strconv_ErrSyntax), ("pannier/head.nameField", Rows.laid_pannier_head_nameField), ("pannier/head.linkField", Rows.laid_pannier_head_linkField), ("pannier/head.magicField", Rows.laid_pannier_head_magicField), ("pannier/head.userField", Rows.laid_pannier_head_userField), ("pannier/head.groupField", Rows.laid_pannier_head_groupField), ("pannier/head.prefixField", Rows.laid_pannier_head_prefixField), ("pannier/head.numberFields", Rows.laid_pannier_head_numberFields)]

theorem et : Tryz.prog.globalNamed "errors.errorType" = some 7 := by kernel_rfl
theorem rt : (Tryz.prog.cutTypes.find? (·.1 == "internal/reflectlite.rtype")).map (·.2) = some 122 := by kernel_rfl
theorem typesSize : Tryz.prog.types.size = 246 := by kernel_rfl
theorem oneRow : ((List.range 246).filter fun t => Tryz.prog.rowNamed t [101, 114, 114, 111, 114]) = [42] := by kernel_rfl

/-- What the condition gives a walk: errors.errorType's one cell. -/
theorem laid_of {W : World} (h' : handlesMet Tryz.prog [("errors.errorType", Rows.laid_errors_errorType)] W) : F.Laid W := by
  obtain ⟨name, u, ty, e1, e2, e3, e4, e5⟩ := h' _ (List.mem_singleton.2 rfl)
  have en : name = [101, 114, 114, 111, 114] := (Option.some.inj e1).symm
  subst en
  obtain rfl := Option.some.inj (rt.symm.trans e2)
  have hm : ty ∈ (List.range 246).filter fun t => Tryz.prog.rowNamed t [101, 114, 114, 111, 114] := List.mem_filter.2 ⟨List.mem_range.2 (by rw [← typesSize]; exact e3), e4⟩
  rw [oneRow] at hm
  obtain rfl := List.mem_singleton.1 hm
  have hh : typeHandle Tryz.prog 42 = .pointer (some ⟨14, 42, none⟩) := by kernel_rfl
  rw [hh] at e5
  have hc : W.cell? ⟨7, 0, none⟩ = some (.iface 122 (.agg #[.pointer (some ⟨14, 42, none⟩)])) := by simpa using World.var?_cell et e5 0
  exact ⟨Lib.lt_of_cell hc, hc⟩

theorem star : "*" ++ "errors.errorString" = "*errors.errorString" := by decide
theorem rowPtr (u : TypeId) (h : Tryz.prog.typeName? 3 u = some "*errors.errorString") : u = 217 :=
  typeName_ptr_named (nm := "errors.errorString") (by rw [star]; kernel_rfl) (by kernel_rfl) (by decide) u (by rw [star]; exact h)

def placeD (a b : Int) : DataW Unit := .agg [.lit (.int .i64 a), .lit (.int .i64 b)]

theorem cells54 : Tryz.prog.cellsOf 85 = 2 := by kernel_rfl
theorem cells3 : Tryz.prog.cellsOf 3 = 1 := by kernel_rfl

set_option maxRecDepth 100000 in
theorem place_cells {enc : TypeId × Value → Unit} {w : World} {base : Nat} {sp : Nat → Bool} {held : Bool} {fuel : Nat} {cs : List Value} {a b : Int} {p : List MemPlace}
    (h : DataW.trod enc Tryz.prog w base sp held fuel 85 cs = some (placeD a b, p)) : cs = [.int .i64 a, .int .i64 b] := by
  obtain ⟨y0, y1, n, hx, hl, h0, h1⟩ := trod_struct2 Tryz.underlying85 h
  rw [cells54] at hl
  obtain ⟨c0, c1, rfl⟩ : ∃ c0 c1, cs = [c0, c1] := by
    match cs, hl with
    | [c0, c1], _ => exact ⟨c0, c1, rfl⟩
  obtain ⟨z0, e0, rfl, _⟩ := DataW.trod_int Tryz.underlying3 h0
  obtain ⟨z1, e1, rfl, _⟩ := DataW.trod_int Tryz.underlying3 h1
  simp [cells3] at e0 e1
  simp [placeD] at hx
  obtain ⟨⟨rfl, rfl⟩, _⟩ := hx
  rw [e0, e1]

set_option maxRecDepth 100000 in
theorem place_of_head {W : World} {name : String} {a b : Int} {rest : List (String × DataW Unit)} {g : Nat}
    (hg : Tryz.prog.globalNamed name = some g) (hty : (Tryz.prog.globals[g]?).map (·.type) = some 85) (h : laidMet Tryz.prog ((name, placeD a b) :: rest) W) :
    W.cell? ⟨g, 0, none⟩ = some (.int .i64 a) ∧ W.cell? ⟨g, 1, none⟩ = some (.int .i64 b) := by
  obtain ⟨ps, ⟨g', t', cs, fuel, p, q, hg', ht', hvar, hd, _, _⟩, _⟩ := h
  obtain rfl := Option.some.inj (hg.symm.trans hg')
  obtain rfl := Option.some.inj (hty.symm.trans ht')
  have hcs : cs = #[.int .i64 a, .int .i64 b] := by have := place_cells hd; cases cs; simp_all
  rw [hcs] at hvar
  have h0 := World.var?_cell hg hvar 0
  have h1 := World.var?_cell hg hvar 1
  exact ⟨by simpa using h0, by simpa using h1⟩

theorem cells58 : Tryz.prog.cellsOf 86 = 10 := by kernel_rfl

set_option maxRecDepth 100000 in
theorem five_cells {enc : TypeId × Value → Unit} {w : World} {base : Nat} {sp : Nat → Bool} {held : Bool} {fuel : Nat} {cs : List Value} {p : List MemPlace}
    (h : DataW.trod enc Tryz.prog w base sp held fuel 86 cs = some (.agg [placeD 100 108, placeD 108 116, placeD 116 124, placeD 124 136, placeD 136 148], p)) :
    ∀ i, i < 5 → (cs.drop (i * 2)).take 2 = [.int .i64 (H.numB i : Int), .int .i64 (H.numE i : Int)] := by
  cases fuel with
  | zero => simp [DataW.trod] at h
  | succ fuel =>
    simp only [DataW.trod, Tryz.underlying86, cells58, cells54] at h
    split at h
    · rename_i hl
      obtain ⟨xs, hm, hx⟩ := Option.map_eq_some_iff.1 h
      have hxs : xs.map (·.1) = [placeD 100 108, placeD 108 116, placeD 116 124, placeD 124 136, placeD 136 148] := by
        have := congrArg Prod.fst hx
        simpa using this
      intro i hi
      obtain ⟨b, hb, hf⟩ := Lib.mapM_at hm i i (by simp [hi])
      have h2 : (xs.map (·.1))[i]? = some b.1 := by simp [hb]
      rw [hxs] at h2
      obtain ⟨b1, b2⟩ := b
      rcases (show i = 0 ∨ i = 1 ∨ i = 2 ∨ i = 3 ∨ i = 4 by omega) with rfl | rfl | rfl | rfl | rfl <;>
        (simp at h2; subst h2; exact place_cells hf)
    · cases h

theorem two_cells {cs : List Value} {i : Nat} {a b : Value} (h : (cs.drop (i * 2)).take 2 = [a, b]) : cs[2 * i]? = some a ∧ cs[2 * i + 1]? = some b := by
  have h0 : ((cs.drop (i * 2)).take 2)[0]? = some a := by rw [h]; rfl
  have h1 : ((cs.drop (i * 2)).take 2)[1]? = some b := by rw [h]; rfl
  simp [List.getElem?_drop] at h0 h1
  exact ⟨by rw [← h0]; congr 1; omega, by rw [← h1]; congr 1; omega⟩

set_option maxRecDepth 100000 in
theorem five_of_head {W : World} {name : String} {rest : List (String × DataW Unit)} {g : Nat}
    (hg : Tryz.prog.globalNamed name = some g) (hty : (Tryz.prog.globals[g]?).map (·.type) = some 86) (h : laidMet Tryz.prog ((name, .agg [placeD 100 108, placeD 108 116, placeD 116 124, placeD 124 136, placeD 136 148]) :: rest) W) :
    ∀ i, i < 5 → W.cell? ⟨g, 2 * i, none⟩ = some (.int .i64 (H.numB i : Int)) ∧ W.cell? ⟨g, 2 * i + 1, none⟩ = some (.int .i64 (H.numE i : Int)) := by
  obtain ⟨ps, ⟨g', t', cs, fuel, p, q, hg', ht', hvar, hd, _, _⟩, _⟩ := h
  obtain rfl := Option.some.inj (hg.symm.trans hg')
  obtain rfl := Option.some.inj (hty.symm.trans ht')
  intro i hi
  obtain ⟨e0, e1⟩ := two_cells (five_cells hd i hi)
  have h0 := World.var?_cell hg hvar (2 * i)
  have h1 := World.var?_cell hg hvar (2 * i + 1)
  rw [h0, h1]
  exact ⟨by simpa using e0, by simpa using e1⟩

set_option maxRecDepth 100000 in
theorem met {W : World} (h : laidMetH Tryz.prog many W) : Lb W ∧ F.Laid W := by
  have h9 : laidMet Tryz.prog [("math/bits.deBruijn32tab", Rows.laid_math_bits_deBruijn32tab), ("math/bits.deBruijn64tab", Rows.laid_math_bits_deBruijn64tab), ("internal/strconv.uint64pow10", Lib.tabData .u64 Lib.pow10Tab), ("strconv.ErrRange", Rows.laid_strconv_ErrRange), ("strconv.ErrSyntax", Rows.laid_strconv_ErrSyntax), ("pannier/head.nameField", placeD 0 100), ("pannier/head.linkField", placeD 157 257), ("pannier/head.magicField", placeD 257 265), ("pannier/head.userField", placeD 265 297), ("pannier/head.groupField", placeD 297 329), ("pannier/head.prefixField", placeD 345 500), ("pannier/head.numberFields", .agg [placeD 100 108, placeD 108 116, placeD 116 124, placeD 124 136, placeD 136 148])] W ∧ handlesMet Tryz.prog [("errors.errorType", Rows.laid_errors_errorType)] W := h
  refine ⟨?_, laid_of h9.2⟩
  have h1 := h9.1.tail.tail
  have h2 := h1.tail
  have h3 := h2.tail
  have h' := h3.tail
  obtain ⟨a0, s0, hv0, -, -, -⟩ := laid_sentinel h2 (g := 13) (ti := 42) (tp := 217) (te := 219) (ts := 9) (by kernel_rfl) (by kernel_rfl) Tryz.underlying42 rowPtr Tryz.underlying217 Tryz.underlying219 rfl rfl Tryz.underlying9 (by kernel_rfl) (by kernel_rfl)
  obtain ⟨a1, s1, hv1, -, -, -⟩ := laid_sentinel h3 (g := 12) (ti := 42) (tp := 217) (te := 219) (ts := 9) (by kernel_rfl) (by kernel_rfl) Tryz.underlying42 rowPtr Tryz.underlying217 Tryz.underlying219 rfl rfl Tryz.underlying9 (by kernel_rfl) (by kernel_rfl)
  have tab := Lib.tabIs_of_head (g := 8) (by kernel_rfl) (by kernel_rfl) Tryz.underlying175 Tryz.underlying137 (by kernel_rfl) (by kernel_rfl) h1
  have c0 := World.var?_cell (g := 12) (by kernel_rfl) hv1 0
  have c1 := World.var?_cell (g := 13) (by kernel_rfl) hv0 0
  have c1' : W.cell? ⟨13, 0, none⟩ = some (.iface 217 (.pointer (some a0))) := by simpa using c1
  have hlt : 13 < W.heap.size := Lib.lt_of_cell c1'
  have b0 := place_of_head (g := 1) (by kernel_rfl) (by kernel_rfl) h'
  have b1 := place_of_head (g := 2) (by kernel_rfl) (by kernel_rfl) h'.tail
  have b6 := place_of_head (g := 3) (by kernel_rfl) (by kernel_rfl) h'.tail.tail
  have b3 := place_of_head (g := 4) (by kernel_rfl) (by kernel_rfl) h'.tail.tail.tail
  have b4 := place_of_head (g := 5) (by kernel_rfl) (by kernel_rfl) h'.tail.tail.tail.tail
  have b5 := place_of_head (g := 6) (by kernel_rfl) (by kernel_rfl) h'.tail.tail.tail.tail.tail
  have b2 := five_of_head (g := 0) (by kernel_rfl) (by kernel_rfl) h'.tail.tail.tail.tail.tail.tail
  refine ⟨⟨b0.1, b0.2, b1.1, b1.2, (b2 0 (by omega)).1, (b2 0 (by omega)).2, (b2 1 (by omega)).1, (b2 1 (by omega)).2, (b2 2 (by omega)).1, (b2 2 (by omega)).2, (b2 3 (by omega)).1, (b2 3 (by omega)).2, (b2 4 (by omega)).1, (b2 4 (by omega)).2, b3.1, b3.2, b4.1, b4.2, b5.1, b5.2, b6.1, b6.2⟩,
    ⟨tab, ⟨217, .pointer (some a1), by simpa using c0⟩, ⟨217, .pointer (some a0), by simpa using c1⟩⟩, ⟨tab, ⟨217, .pointer (some a1), by simpa using c0⟩, ⟨217, .pointer (some a0), by simpa using c1⟩⟩, hlt⟩

def cellsIn : DataW Unit → Array Value
  | .agg ps => (ps.flatMap fun | .lit (.int k n) => [Value.int k n] | .lit (.string z) => [Value.string ⟨z.toArray⟩] | .agg qs => qs.map (fun | .lit (.int k n) => Value.int k n | _ => .nilIface) | _ => []).toArray
  | _ => #[]
def hold (cs : Array Value) : Obj → Obj
  | .cells _ t frozen => .cells cs t frozen
  | o => o
def synS : ByteArray := ⟨#[105, 110, 118, 97, 108, 105, 100, 32, 115, 121, 110, 116, 97, 120]⟩
def rngS : ByteArray := ⟨#[118, 97, 108, 117, 101, 32, 111, 117, 116, 32, 111, 102, 32, 114, 97, 110, 103, 101]⟩
noncomputable def low : Nat := (World.holding Tryz.prog default ⟨#[], #[], []⟩).heap.size
/-- A world that meets them. -/
noncomputable def start (os : Os) : World :=
  let w0 := World.holding Tryz.prog os ⟨#[.cells #[.string synS] 219, .cells #[.string rngS] 219], #[], []⟩
  { w0 with heap := (((((((((((((w0.heap.modify 7 (hold #[.iface 122 (.agg #[.pointer (some ⟨14, 42, none⟩)])])).modify 12 (hold #[.iface 217 (.pointer (some ⟨low, 0, none⟩))])).modify 13 (hold #[.iface 217 (.pointer (some ⟨low + 1, 0, none⟩))])).modify 10 (hold (cellsIn Rows.laid_math_bits_deBruijn32tab))).modify 11 (hold (cellsIn Rows.laid_math_bits_deBruijn64tab))).modify 8 (hold (cellsIn Rows.laid_internal_strconv_uint64pow10))).modify 1 (hold (cellsIn Rows.laid_pannier_head_nameField))).modify 2 (hold (cellsIn Rows.laid_pannier_head_linkField))).modify 3 (hold (cellsIn Rows.laid_pannier_head_magicField))).modify 4 (hold (cellsIn Rows.laid_pannier_head_userField))).modify 5 (hold (cellsIn Rows.laid_pannier_head_groupField))).modify 6 (hold (cellsIn Rows.laid_pannier_head_prefixField))).modify 0 (hold (cellsIn Rows.laid_pannier_head_numberFields))) }

section
variable {H : Type} {enc : TypeId × Value → H}

/-- a contract over worlds of the program's shape, in which the listed variables are as they are laid, is the row's -/
theorem handed_shaped {a : Assume} {C : Checked} {os : Os} {f : FuncId} {fn : Func} {s : ChangeSpec} {conds : List PathCond} {apart fresh handsOn again : Bool} {X : World → Array Value → Prop}
    (hX : ∀ (w w' : World) (args : Array Value), w.heap = w'.heap → X w args → X w' args)
    (own : ownKnob C.prog.godebug = none) (started : os.Started) (noInit : C.prog.inits.idxOf? f = none) (hfn : C.prog.funcs[f]? = some fn)
    (witness : ∃ (w : World) (tape : Tape) (i : Input), w.os = os ∧ (w.forCall tape i).Shaped C.prog ∧ i.vars = [] ∧ Input.okWide C.prog (w.forCall tape i) .any w.heap.size f i ∧
      ((s.pre enc C.prog fn conds apart (w.forCall tape i).memory i.args ∧ X (w.forCall tape i).memory i.args) ∧ sizedMet enc C.prog fn (OpenSpec.ofChange s) apart (w.forCall tape i).memory i.args) ∧ a.holds C.prog (lone (Frame.enter C.prog f i.args .normal) [] (w.forCall tape i)))
    (contract : ∀ (W : World) (base : Nat) (args : Array Value) (ds gs : List (DataW H)) (before : List MemPlace),
      X W args → (∀ (j : Nat) t v, fn.params[j]? = some t → args[j]? = some v → Value.okWide C.prog W .any base t v) →
      DataW.Whole enc C.prog fn.params.toList s.vars apart W args.toList ds gs before →
      (DataW.weightsEach C.prog (fn.params.toList ++ s.plain.varTypes C.prog) (ds ++ gs)).all (· ≤ reachBytes) = true → W.ShapedOpen C.prog →
      Calls C.prog f args W fun e W' => ∃ v, e = .returned v ∧ s.post enc C.prog fn apart fresh handsOn again W args v W') :
    ReturnsInHanded a C os f .any (fun w args => (s.pre enc C.prog fn conds apart w args ∧ X w args) ∧ sizedMet enc C.prog fn (OpenSpec.ofChange s) apart w args) (s.post enc C.prog fn apart fresh handsOn again) := by
  refine returnsInHanded_of_calls own started noInit witness ?_
  intro w tape i _ hsh _ hok hpre hholds
  obtain ⟨_, _, _, fn', hfn', _, _, _, _, hval⟩ := hok
  have e : fn' = fn := Option.some.inj (hfn'.symm.trans hfn)
  subst e
  obtain ⟨⟨⟨ds, gs, before, hw, hc⟩, hx⟩, hz⟩ := hpre
  have hw' := DataW.Whole.of_heap (w' := w.forCall tape i) (by rfl) hw
  refine (contract (w.forCall tape i) w.heap.size i.args ds gs before (hX _ _ _ (by rfl) hx) hval hw' (hz.weights hw) hsh).mono fun e W' ⟨v, he, hp⟩ => ?_
  subst he
  exact ChangeSpec.post_blind hp
end

theorem lit_u8 {z : Int} (h : (Lit.int .u8 z).wf = true) : 0 ≤ z ∧ z ≤ 255 := by
  have h' : IntKind.u8.min ≤ z ∧ z ≤ IntKind.u8.max := by simpa [Lit.wf] using h
  have e1 : IntKind.u8.min = 0 := by decide
  have e2 : IntKind.u8.max = 255 := by decide
  omega
theorem lit_i64 {z : Int} (h : (Lit.int .i64 z).wf = true) : -9223372036854775808 ≤ z ∧ z ≤ 9223372036854775807 := by
  have h' : IntKind.i64.min ≤ z ∧ z ≤ IntKind.i64.max := by simpa [Lit.wf] using h
  have e1 : IntKind.i64.min = -9223372036854775808 := by decide
  have e2 : IntKind.i64.max = 9223372036854775807 := by decide
  omega

end Go.Proofs.YtnmmaedngdibeaaGreatDoor
