/-
  Contracts of the document's answer for entries: number.
-/
import Derived.Test.YtjnmmkohmfhnlaaDoorRf0
import Derived.Test.YtjnmmkohmfhnlaaDoorRefw
import Derived.Test.YtjnmmkohmfhnlaaDoorEk0
import Derived.Deep.RegionHeld3
import Derived.Deep.DeepCutAuto
namespace Go.Proofs.YtjnmmkohmfhnlaaDoor
open Go.RowKit
set_option linter.unusedVariables false
set_option linter.unusedSimpArgs false

def rnv (v : ByteArray) (o : Int) : Option Int := if emp v then some o else nval v
theorem rnumber_w (v : ByteArray) (o : Int) (w : World) (hv : v.size ≤ 281474976710656) :
    Calls Tryd.prog 23 #[.string v, .int .i64 o] w fun e w' => e = .returned (.tuple #[.int .i64 ((rnv v o).getD 0), .bool (rnv v o).isSome]) ∧ w = w' := by
  unfold rnv
  cases he : emp v with
  | true =>
    unfold emp at he
    simp only [if_true, Option.getD_some, Option.isSome_some]
    go_enter Tryd.func23, Tryd.ntmps23
    go_wp2
    go_ret2
    exact ⟨rfl, rfl⟩
  | false =>
    unfold emp at he
    simp only [Bool.false_eq_true, if_false]
    have q := fun W => ref_w v hv W
    rw [← nl_rnum, ← nval_nl] at q
    cases hn : nval v with
    | none =>
      rw [hn] at q
      simp only [rv] at q
      simp only [Option.getD_none, Option.isSome_none]
      go_enter Tryd.func23, Tryd.ntmps23
      go_wp2_with (go_at_call 30; refine (q _).mono ?_; rintro e w' ⟨rfl, rfl⟩)
      go_ret2
      exact ⟨rfl, rfl⟩
    | some n =>
      rw [hn] at q
      simp only [rv] at q
      simp only [Option.getD_some, Option.isSome_some]
      go_enter Tryd.func23, Tryd.ntmps23
      go_wp2_with (go_at_call 30; refine (q _).mono ?_; rintro e w' ⟨rfl, rfl⟩)
      go_ret2
      exact ⟨rfl, rfl⟩

end Go.Proofs.YtjnmmkohmfhnlaaDoor
