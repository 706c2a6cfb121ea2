/-
  Contract of the document's answer for entries: Make.
-/
import Derived.Test.YtjnmmkohmfhnlaaDoorRfj0
import Derived.Test.YtjnmmkohmfhnlaaDoorRfj48
import Derived.Test.YtjnmmkohmfhnlaaDoorRfj55
import Derived.Test.YtjnmmkohmfhnlaaDoorRfj49
import Derived.Test.YtjnmmkohmfhnlaaDoorRfj50
import Derived.Test.YtjnmmkohmfhnlaaDoorRfj53
import Derived.Test.YtjnmmkohmfhnlaaDoorRfkN
namespace Go.Proofs.YtjnmmkohmfhnlaaDoor
open Go.RowKit
set_option linter.unusedVariables false

theorem rmake_w (x : Hd) (a : Ah) (w : World) (hl : Lst w a.lv a.lK a.lV a.ln) (hg : Lst w a.gv a.gK a.gV a.gn) (n1 : a.ln ≤ 70) (n2 : a.gn ≤ 70) (fx : HdFit x) (hs : ∀ k, (a.val k).size ≤ 281474976710656) (hsz : (tx x a 0).size ≤ 9223372036854775807) :
    Calls Tryd.prog 11 #[.agg x.rcells, a.lv, a.gv, .string a.name, .string a.link] w fun ev w' => ((kd x.typ = 0 ∧ ev = .returned (.tuple #[.agg zeroE.cells, .int .i64 80])) ∨ (kd x.typ ≠ 0 ∧ badN x a ∧ ev = .returned (.tuple #[.agg zeroE.cells, .int .i64 70])) ∨ (kd x.typ ≠ 0 ∧ ¬ badN x a ∧ neg x a ∧ ev = .returned (.tuple #[.agg zeroE.cells, .int .i64 90])) ∨ (kd x.typ ≠ 0 ∧ ¬ badN x a ∧ ¬ neg x a ∧ ev = .returned (.tuple #[.agg (fullE x a).cells, .int .i64 0]))) ∧ Below w.heap.size w w' := by
  by_cases c0 : x.typ = 0
  · exact rmake_0 x a w hl hg n1 n2 fx hs hsz c0
  by_cases c1 : x.typ = 48
  · exact rmake_48 x a w hl hg n1 n2 fx hs hsz c1
  by_cases c2 : x.typ = 55
  · exact rmake_55 x a w hl hg n1 n2 fx hs hsz c2
  by_cases c3 : x.typ = 49
  · exact rmake_49 x a w hl hg n1 n2 fx hs hsz c3
  by_cases c4 : x.typ = 50
  · exact rmake_50 x a w hl hg n1 n2 fx hs hsz c4
  by_cases c5 : x.typ = 53
  · exact rmake_53 x a w hl hg n1 n2 fx hs hsz c5
  exact rmake_no x a w hl hg n1 n2 fx hs hsz ⟨c0, c1, c2, c3, c4, c5⟩

end Go.Proofs.YtjnmmkohmfhnlaaDoor
