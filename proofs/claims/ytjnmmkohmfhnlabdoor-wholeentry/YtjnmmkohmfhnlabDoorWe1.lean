/-
  kind.Type; an entry held against itself; what Make answers of the law's three headers.
-/
import Derived.Test.YtjnmmkohmfhnlabDoorWe0
import Derived.Test.YtjnmmkohmfhnlabDoorMh
namespace Go.Proofs.YtjnmmkohmfhnlabDoor
open Go.RowKit
set_option linter.unusedVariables false
set_option linter.unusedSimpArgs false

def ty (k : Int) : Int := if k = 1 then 48 else if k = 2 then 49 else if k = 3 then 50 else if k = 4 then 53 else 0

theorem type_w (k : Int) (w : World) : Calls Tryd.prog 5 #[.int .i64 k] w fun e w' => e = .returned (.int .u8 (ty k)) ∧ w = w' := by
  unfold ty
  by_cases c0 : k = 1
  · subst c0
    go_enter Tryd.func5, Tryd.ntmps5
    go_wp2
    go_ret
    exact ⟨rfl, rfl⟩
  by_cases c1 : k = 2
  · subst c1
    go_enter Tryd.func5, Tryd.ntmps5
    go_wp2
    go_ret
    exact ⟨rfl, rfl⟩
  by_cases c2 : k = 3
  · subst c2
    go_enter Tryd.func5, Tryd.ntmps5
    go_wp2
    go_ret
    exact ⟨rfl, rfl⟩
  by_cases c3 : k = 4
  · subst c3
    go_enter Tryd.func5, Tryd.ntmps5
    go_wp2
    go_ret
    exact ⟨rfl, rfl⟩
  rw [if_neg c0, if_neg c1, if_neg c2, if_neg c3]
  go_enter Tryd.func5, Tryd.ntmps5
  go_wp2
  go_ret
  exact ⟨rfl, rfl⟩

set_option maxRecDepth 100000 in
set_option maxHeartbeats 1000000 in
theorem eq_same (p l : ByteArray) (k m a b c d : Int) (u g : ByteArray) (W : World) : (Op.equalIn 10000 23 (.agg #[.string p, .string l, .int .i64 k, .int .i64 m, .int .i64 a, .int .i64 b, .int .i64 c, .int .i64 d, .string u, .string g]) (.agg #[.string p, .string l, .int .i64 k, .int .i64 m, .int .i64 a, .int .i64 b, .int .i64 c, .int .i64 d, .string u, .string g])).run Tryd.prog W = .ok true W := by
  rw [run_equalIn_struct W 9999 23 _ _ (by kernel_rfl) (by kernel_rfl)]
  rw [show (Tryd.prog.fieldsOf 23) = _ from by unfold Program.fieldsOf; rw [Tryd.underlying23]]
  have x0 : (part 9 #[.string p, .string l, .int .i64 k, .int .i64 m, .int .i64 a, .int .i64 b, .int .i64 c, .int .i64 d, .string u, .string g] 0).run Tryd.prog W = .ok (.string p) W := by kernel_rfl
  have e0 : (Op.equalIn 9999 9 (.string p) (.string p)).run Tryd.prog W = .ok true W := by rw [run_equalIn_string W 9998 9 _ _ Tryd.underlying9]; simp
  have x1 : (part 9 #[.string p, .string l, .int .i64 k, .int .i64 m, .int .i64 a, .int .i64 b, .int .i64 c, .int .i64 d, .string u, .string g] 1).run Tryd.prog W = .ok (.string l) W := by kernel_rfl
  have e1 : (Op.equalIn 9999 9 (.string l) (.string l)).run Tryd.prog W = .ok true W := by rw [run_equalIn_string W 9998 9 _ _ Tryd.underlying9]; simp
  have x2 : (part 3 #[.string p, .string l, .int .i64 k, .int .i64 m, .int .i64 a, .int .i64 b, .int .i64 c, .int .i64 d, .string u, .string g] 2).run Tryd.prog W = .ok (.int .i64 k) W := by kernel_rfl
  have e2 : (Op.equalIn 9999 3 (.int .i64 k) (.int .i64 k)).run Tryd.prog W = .ok true W := by rw [run_equalIn_int W 9998 3 _ _ _ _ Tryd.underlying3]; simp
  have x3 : (part 3 #[.string p, .string l, .int .i64 k, .int .i64 m, .int .i64 a, .int .i64 b, .int .i64 c, .int .i64 d, .string u, .string g] 3).run Tryd.prog W = .ok (.int .i64 m) W := by kernel_rfl
  have e3 : (Op.equalIn 9999 3 (.int .i64 m) (.int .i64 m)).run Tryd.prog W = .ok true W := by rw [run_equalIn_int W 9998 3 _ _ _ _ Tryd.underlying3]; simp
  have x4 : (part 2 #[.string p, .string l, .int .i64 k, .int .i64 m, .int .i64 a, .int .i64 b, .int .i64 c, .int .i64 d, .string u, .string g] 4).run Tryd.prog W = .ok (.int .i64 a) W := by kernel_rfl
  have e4 : (Op.equalIn 9999 2 (.int .i64 a) (.int .i64 a)).run Tryd.prog W = .ok true W := by rw [run_equalIn_int W 9998 2 _ _ _ _ Tryd.underlying2]; simp
  have x5 : (part 2 #[.string p, .string l, .int .i64 k, .int .i64 m, .int .i64 a, .int .i64 b, .int .i64 c, .int .i64 d, .string u, .string g] 5).run Tryd.prog W = .ok (.int .i64 b) W := by kernel_rfl
  have e5 : (Op.equalIn 9999 2 (.int .i64 b) (.int .i64 b)).run Tryd.prog W = .ok true W := by rw [run_equalIn_int W 9998 2 _ _ _ _ Tryd.underlying2]; simp
  have x6 : (part 2 #[.string p, .string l, .int .i64 k, .int .i64 m, .int .i64 a, .int .i64 b, .int .i64 c, .int .i64 d, .string u, .string g] 6).run Tryd.prog W = .ok (.int .i64 c) W := by kernel_rfl
  have e6 : (Op.equalIn 9999 2 (.int .i64 c) (.int .i64 c)).run Tryd.prog W = .ok true W := by rw [run_equalIn_int W 9998 2 _ _ _ _ Tryd.underlying2]; simp
  have x7 : (part 2 #[.string p, .string l, .int .i64 k, .int .i64 m, .int .i64 a, .int .i64 b, .int .i64 c, .int .i64 d, .string u, .string g] 7).run Tryd.prog W = .ok (.int .i64 d) W := by kernel_rfl
  have e7 : (Op.equalIn 9999 2 (.int .i64 d) (.int .i64 d)).run Tryd.prog W = .ok true W := by rw [run_equalIn_int W 9998 2 _ _ _ _ Tryd.underlying2]; simp
  have x8 : (part 9 #[.string p, .string l, .int .i64 k, .int .i64 m, .int .i64 a, .int .i64 b, .int .i64 c, .int .i64 d, .string u, .string g] 8).run Tryd.prog W = .ok (.string u) W := by kernel_rfl
  have e8 : (Op.equalIn 9999 9 (.string u) (.string u)).run Tryd.prog W = .ok true W := by rw [run_equalIn_string W 9998 9 _ _ Tryd.underlying9]; simp
  have x9 : (part 9 #[.string p, .string l, .int .i64 k, .int .i64 m, .int .i64 a, .int .i64 b, .int .i64 c, .int .i64 d, .string u, .string g] 9).run Tryd.prog W = .ok (.string g) W := by kernel_rfl
  have e9 : (Op.equalIn 9999 9 (.string g) (.string g)).run Tryd.prog W = .ok true W := by rw [run_equalIn_string W 9998 9 _ _ Tryd.underlying9]; simp
  simp only [Op.eqFields]
  rw [if_pos (by decide), Sem.run_bind, x0, Result.andThen_ok, Sem.run_bind, x0, Result.andThen_ok, Sem.run_bind, e0, Result.andThen_ok, Sem.run_ite, if_neg (by decide)]
  rw [if_pos (by decide), Sem.run_bind, x1, Result.andThen_ok, Sem.run_bind, x1, Result.andThen_ok, Sem.run_bind, e1, Result.andThen_ok, Sem.run_ite, if_neg (by decide)]
  rw [if_pos (by decide), Sem.run_bind, x2, Result.andThen_ok, Sem.run_bind, x2, Result.andThen_ok, Sem.run_bind, e2, Result.andThen_ok, Sem.run_ite, if_neg (by decide)]
  rw [if_pos (by decide), Sem.run_bind, x3, Result.andThen_ok, Sem.run_bind, x3, Result.andThen_ok, Sem.run_bind, e3, Result.andThen_ok, Sem.run_ite, if_neg (by decide)]
  rw [if_pos (by decide), Sem.run_bind, x4, Result.andThen_ok, Sem.run_bind, x4, Result.andThen_ok, Sem.run_bind, e4, Result.andThen_ok, Sem.run_ite, if_neg (by decide)]
  rw [if_pos (by decide), Sem.run_bind, x5, Result.andThen_ok, Sem.run_bind, x5, Result.andThen_ok, Sem.run_bind, e5, Result.andThen_ok, Sem.run_ite, if_neg (by decide)]
  rw [if_pos (by decide), Sem.run_bind, x6, Result.andThen_ok, Sem.run_bind, x6, Result.andThen_ok, Sem.run_bind, e6, Result.andThen_ok, Sem.run_ite, if_neg (by decide)]
  rw [if_pos (by decide), Sem.run_bind, x7, Result.andThen_ok, Sem.run_bind, x7, Result.andThen_ok, Sem.run_bind, e7, Result.andThen_ok, Sem.run_ite, if_neg (by decide)]
  rw [if_pos (by decide), Sem.run_bind, x8, Result.andThen_ok, Sem.run_bind, x8, Result.andThen_ok, Sem.run_bind, e8, Result.andThen_ok, Sem.run_ite, if_neg (by decide)]
  rw [if_pos (by decide), Sem.run_bind, x9, Result.andThen_ok, Sem.run_bind, x9, Result.andThen_ok, Sem.run_bind, e9, Result.andThen_ok, Sem.run_ite, if_neg (by decide)]
  rw [Sem.run_pure]

/-! ### the first header -/
def hA : Hd := ⟨0, ⟨#[97]⟩, noE, noE, noE, noE, 53, 0, 0, 0, 0, 0⟩
theorem hA_fit (w : World) : Fit hA (noA noE noE) w := noA_fit _ _ _ _ (by decide) (by decide) (by decide)
theorem hA_kd : ¬ kd hA.typ = 0 := by decide
theorem hA_full : fullE hA (noA noE noE) = ⟨⟨#[97]⟩, noE, 4, 0, 0, 0, 0, 0, noE, noE⟩ := by
  rw [noA_full]
  have e1 : or2 noE hA.full = ⟨#[97]⟩ := by decide +kernel
  have e2 : bits .and .i64 hA.mode 4095 = 0 := by decide +kernel
  have e3 : kd hA.typ = 4 := by decide
  rw [e1, e2, e3, show or2 noE hA.link = noE from or2_none _]
  rfl
theorem hA_neg : ¬ neg hA (noA noE noE) := by
  unfold neg
  rw [hA_full]
  decide

end Go.Proofs.YtjnmmkohmfhnlabDoor
