/-
  The law on (reflectlite.Value).Set, at a number and at a place.
-/
import Derived.Test.YtnmmaedngdibeaaGreatDoorFRefl
namespace Go.Proofs.YtnmmaedngdibeaaGreatDoor.F
open Go.RowKit Go.Extern.Stop Go.Stop Go.Extern

theorem set24 (ta b : Addr) (e : Int) (old : Value) (W : World) (hb : W.cell? b = some (.int .i64 e)) (ht : W.cell? ta = some old) (hf : W.frozen? ta = false) :
    (callFunc 65 #[.agg #[.pointer (some ⟨14, 48, none⟩), .pointer (some ta), .int .u64 386], .agg #[.pointer (some ⟨14, 48, none⟩), .pointer (some b), .int .u64 130]]).run Tryz.prog W
      = .ok (.value (.tuple #[])) (W.setCell ta (.int .i64 e)) := by
  rw [call48]
  change ((ReflectliteValue.parts (.agg #[.pointer (some ⟨14, 48, none⟩), .pointer (some ta), .int .u64 386]) >>= fun p => ReflectliteValue.parts (.agg #[.pointer (some ⟨14, 48, none⟩), .pointer (some b), .int .u64 130]) >>= _).run Tryz.prog W).andThen _ = _
  simp only [Sem.run_bind, parts24a, parts24, Result.andThen]
  simp [ReflectliteValue.flagAddr, loadVar, isAgg, underlying, Tryz.underlying48, hb, Result.andThen, direct24, storeVar, Value.cells, storeCells, Addr.add]
  rw [run_store Tryz.prog W ta _ _ (by rfl)]
  simp [ht, hf]

theorem set36 (ta b : Addr) (p : Int) (t : TypeId) (x : Value) (o1 o2 : Value) (W : World) (hb0 : W.cell? b = some (.int .i64 p)) (hb1 : W.cell? (b.add 1) = some (.iface t x)) (ht0 : W.cell? ta = some o1) (ht1 : (W.setCell ta (.int .i64 p)).cell? (ta.add 1) = some o2) (hf0 : W.frozen? ta = false) (hf1 : W.frozen? (ta.add 1) = false) :
    (callFunc 65 #[.agg #[.pointer (some ⟨14, 79, none⟩), .pointer (some ta), .int .u64 409], .agg #[.pointer (some ⟨14, 79, none⟩), .pointer (some b), .int .u64 153]]).run Tryz.prog W
      = .ok (.value (.tuple #[])) ((W.setCell ta (.int .i64 p)).setCell (ta.add 1) (.iface t x)) := by
  have hl := run_loadCells_list (P := Tryz.prog) (w := W) b [.int .i64 p, .iface t x] (fun j v hj => by
    match j, hj with
    | 0, hj => simp at hj; subst hj; simpa [Addr.add] using hb0
    | 1, hj => simp at hj; subst hj; exact hb1
    | j + 2, hj => simp at hj)
  simp only [List.length_cons, List.length_nil, Nat.zero_add] at hl
  rw [call48]
  change ((ReflectliteValue.parts (.agg #[.pointer (some ⟨14, 79, none⟩), .pointer (some ta), .int .u64 409]) >>= fun p => ReflectliteValue.parts (.agg #[.pointer (some ⟨14, 79, none⟩), .pointer (some b), .int .u64 153]) >>= _).run Tryz.prog W).andThen _ = _
  simp only [Sem.run_bind, parts36a, parts36, Result.andThen]
  simp [ReflectliteValue.flagAddr, loadVar, isAgg, underlying, Tryz.underlying79, Result.andThen, direct36, storeVar, Value.cells, storeCells, hl]
  have e0 : ta.add 0 = ta := by simp [Addr.add]
  rw [e0, run_store Tryz.prog W ta _ _ (by rfl)]
  simp [ht0, hf0]
  rw [run_store Tryz.prog _ (ta.add 1) _ _ (by rfl)]
  simp [ht1, hf1]
end Go.Proofs.YtnmmaedngdibeaaGreatDoor.F
