/-
  The law on (reflectlite.Value).Set, at a number and at a place.
-/
import Derived.Test.YtamdonhmholjpacDoorRefl
namespace Go.Proofs.YtamdonhmholjpacDoor
open Go.RowKit Go.Extern.Stop Go.Stop Go.Extern

theorem set24 (ta b : Addr) (e : Int) (old : Value) (W : World) (hb : W.cell? b = some (.int .i64 e)) (ht : W.cell? ta = some old) (hf : W.frozen? ta = false) :
    (callFunc 32 #[.agg #[.pointer (some ⟨1, 23, none⟩), .pointer (some ta), .int .u64 386], .agg #[.pointer (some ⟨1, 23, none⟩), .pointer (some b), .int .u64 130]]).run Tryd.prog W
      = .ok (.value (.tuple #[])) (W.setCell ta (.int .i64 e)) := by
  rw [call48]
  change ((ReflectliteValue.parts (.agg #[.pointer (some ⟨1, 23, none⟩), .pointer (some ta), .int .u64 386]) >>= fun p => ReflectliteValue.parts (.agg #[.pointer (some ⟨1, 23, none⟩), .pointer (some b), .int .u64 130]) >>= _).run Tryd.prog W).andThen _ = _
  simp only [Sem.run_bind, parts24a, parts24, Result.andThen]
  simp [ReflectliteValue.flagAddr, loadVar, isAgg, underlying, Tryd.underlying23, hb, Result.andThen, direct24, storeVar, Value.cells, storeCells, Addr.add]
  rw [run_store Tryd.prog W ta _ _ (by rfl)]
  simp [ht, hf]

end Go.Proofs.YtamdonhmholjpacDoor
