/-
  Two headers held against each other: some answer comes, and no memory is touched.
-/
import Derived.Test.YtmholjjicklnhacDoorRt
namespace Go.Proofs.YtmholjjicklnhacDoor
open Go.RowKit
set_option linter.unusedVariables false
set_option linter.unusedSimpArgs false

set_option maxRecDepth 100000 in
set_option maxHeartbeats 1000000 in
theorem eq25 (f : Int) (n l p u r : ByteArray) (ty a b c d m f' : Int) (n' l' p' u' r' : ByteArray) (ty' a' b' c' d' m' : Int) : ∃ B : Bool, ∀ W : World, (Op.equalIn 10000 25 (.agg #[.int .i64 f', .string n', .string l', .string p', .string u', .string r', .int .u8 ty', .int .i64 a', .int .i64 b', .int .i64 c', .int .i64 d', .int .i64 m']) (.agg #[.int .i64 f, .string n, .string l, .string p, .string u, .string r, .int .u8 ty, .int .i64 a, .int .i64 b, .int .i64 c, .int .i64 d, .int .i64 m])).run Tryd.prog W = .ok B W := by
  refine ⟨(f' == f) && ((n'.toList == n.toList) && ((l'.toList == l.toList) && ((p'.toList == p.toList) && ((u'.toList == u.toList) && ((r'.toList == r.toList) && ((ty' == ty) && ((a' == a) && ((b' == b) && ((c' == c) && ((d' == d) && ((m' == m)))))))))))), fun W => ?_⟩
  rw [run_equalIn_struct W 9999 25 _ _ (by kernel_rfl) (by kernel_rfl)]
  rw [show (Tryd.prog.fieldsOf 25) = _ from by unfold Program.fieldsOf; rw [Tryd.underlying25]]
  have x0 : (part 3 #[.int .i64 f', .string n', .string l', .string p', .string u', .string r', .int .u8 ty', .int .i64 a', .int .i64 b', .int .i64 c', .int .i64 d', .int .i64 m'] 0).run Tryd.prog W = .ok (.int .i64 f') W := by kernel_rfl
  have y0 : (part 3 #[.int .i64 f, .string n, .string l, .string p, .string u, .string r, .int .u8 ty, .int .i64 a, .int .i64 b, .int .i64 c, .int .i64 d, .int .i64 m] 0).run Tryd.prog W = .ok (.int .i64 f) W := by kernel_rfl
  have e0 : (Op.equalIn 9999 3 (.int .i64 f') (.int .i64 f)).run Tryd.prog W = .ok (f' == f) W := run_equalIn_int W 9998 3 _ _ _ _ Tryd.underlying3
  have x1 : (part 9 #[.int .i64 f', .string n', .string l', .string p', .string u', .string r', .int .u8 ty', .int .i64 a', .int .i64 b', .int .i64 c', .int .i64 d', .int .i64 m'] 1).run Tryd.prog W = .ok (.string n') W := by kernel_rfl
  have y1 : (part 9 #[.int .i64 f, .string n, .string l, .string p, .string u, .string r, .int .u8 ty, .int .i64 a, .int .i64 b, .int .i64 c, .int .i64 d, .int .i64 m] 1).run Tryd.prog W = .ok (.string n) W := by kernel_rfl
  have e1 : (Op.equalIn 9999 9 (.string n') (.string n)).run Tryd.prog W = .ok (n'.toList == n.toList) W := run_equalIn_string W 9998 9 _ _ Tryd.underlying9
  have x2 : (part 9 #[.int .i64 f', .string n', .string l', .string p', .string u', .string r', .int .u8 ty', .int .i64 a', .int .i64 b', .int .i64 c', .int .i64 d', .int .i64 m'] 2).run Tryd.prog W = .ok (.string l') W := by kernel_rfl
  have y2 : (part 9 #[.int .i64 f, .string n, .string l, .string p, .string u, .string r, .int .u8 ty, .int .i64 a, .int .i64 b, .int .i64 c, .int .i64 d, .int .i64 m] 2).run Tryd.prog W = .ok (.string l) W := by kernel_rfl
  have e2 : (Op.equalIn 9999 9 (.string l') (.string l)).run Tryd.prog W = .ok (l'.toList == l.toList) W := run_equalIn_string W 9998 9 _ _ Tryd.underlying9
  have x3 : (part 9 #[.int .i64 f', .string n', .string l', .string p', .string u', .string r', .int .u8 ty', .int .i64 a', .int .i64 b', .int .i64 c', .int .i64 d', .int .i64 m'] 3).run Tryd.prog W = .ok (.string p') W := by kernel_rfl
  have y3 : (part 9 #[.int .i64 f, .string n, .string l, .string p, .string u, .string r, .int .u8 ty, .int .i64 a, .int .i64 b, .int .i64 c, .int .i64 d, .int .i64 m] 3).run Tryd.prog W = .ok (.string p) W := by kernel_rfl
  have e3 : (Op.equalIn 9999 9 (.string p') (.string p)).run Tryd.prog W = .ok (p'.toList == p.toList) W := run_equalIn_string W 9998 9 _ _ Tryd.underlying9
  have x4 : (part 9 #[.int .i64 f', .string n', .string l', .string p', .string u', .string r', .int .u8 ty', .int .i64 a', .int .i64 b', .int .i64 c', .int .i64 d', .int .i64 m'] 4).run Tryd.prog W = .ok (.string u') W := by kernel_rfl
  have y4 : (part 9 #[.int .i64 f, .string n, .string l, .string p, .string u, .string r, .int .u8 ty, .int .i64 a, .int .i64 b, .int .i64 c, .int .i64 d, .int .i64 m] 4).run Tryd.prog W = .ok (.string u) W := by kernel_rfl
  have e4 : (Op.equalIn 9999 9 (.string u') (.string u)).run Tryd.prog W = .ok (u'.toList == u.toList) W := run_equalIn_string W 9998 9 _ _ Tryd.underlying9
  have x5 : (part 9 #[.int .i64 f', .string n', .string l', .string p', .string u', .string r', .int .u8 ty', .int .i64 a', .int .i64 b', .int .i64 c', .int .i64 d', .int .i64 m'] 5).run Tryd.prog W = .ok (.string r') W := by kernel_rfl
  have y5 : (part 9 #[.int .i64 f, .string n, .string l, .string p, .string u, .string r, .int .u8 ty, .int .i64 a, .int .i64 b, .int .i64 c, .int .i64 d, .int .i64 m] 5).run Tryd.prog W = .ok (.string r) W := by kernel_rfl
  have e5 : (Op.equalIn 9999 9 (.string r') (.string r)).run Tryd.prog W = .ok (r'.toList == r.toList) W := run_equalIn_string W 9998 9 _ _ Tryd.underlying9
  have x6 : (part 5 #[.int .i64 f', .string n', .string l', .string p', .string u', .string r', .int .u8 ty', .int .i64 a', .int .i64 b', .int .i64 c', .int .i64 d', .int .i64 m'] 6).run Tryd.prog W = .ok (.int .u8 ty') W := by kernel_rfl
  have y6 : (part 5 #[.int .i64 f, .string n, .string l, .string p, .string u, .string r, .int .u8 ty, .int .i64 a, .int .i64 b, .int .i64 c, .int .i64 d, .int .i64 m] 6).run Tryd.prog W = .ok (.int .u8 ty) W := by kernel_rfl
  have e6 : (Op.equalIn 9999 5 (.int .u8 ty') (.int .u8 ty)).run Tryd.prog W = .ok (ty' == ty) W := run_equalIn_int W 9998 5 _ _ _ _ Tryd.underlying5
  have x7 : (part 2 #[.int .i64 f', .string n', .string l', .string p', .string u', .string r', .int .u8 ty', .int .i64 a', .int .i64 b', .int .i64 c', .int .i64 d', .int .i64 m'] 7).run Tryd.prog W = .ok (.int .i64 a') W := by kernel_rfl
  have y7 : (part 2 #[.int .i64 f, .string n, .string l, .string p, .string u, .string r, .int .u8 ty, .int .i64 a, .int .i64 b, .int .i64 c, .int .i64 d, .int .i64 m] 7).run Tryd.prog W = .ok (.int .i64 a) W := by kernel_rfl
  have e7 : (Op.equalIn 9999 2 (.int .i64 a') (.int .i64 a)).run Tryd.prog W = .ok (a' == a) W := run_equalIn_int W 9998 2 _ _ _ _ Tryd.underlying2
  have x8 : (part 2 #[.int .i64 f', .string n', .string l', .string p', .string u', .string r', .int .u8 ty', .int .i64 a', .int .i64 b', .int .i64 c', .int .i64 d', .int .i64 m'] 8).run Tryd.prog W = .ok (.int .i64 b') W := by kernel_rfl
  have y8 : (part 2 #[.int .i64 f, .string n, .string l, .string p, .string u, .string r, .int .u8 ty, .int .i64 a, .int .i64 b, .int .i64 c, .int .i64 d, .int .i64 m] 8).run Tryd.prog W = .ok (.int .i64 b) W := by kernel_rfl
  have e8 : (Op.equalIn 9999 2 (.int .i64 b') (.int .i64 b)).run Tryd.prog W = .ok (b' == b) W := run_equalIn_int W 9998 2 _ _ _ _ Tryd.underlying2
  have x9 : (part 2 #[.int .i64 f', .string n', .string l', .string p', .string u', .string r', .int .u8 ty', .int .i64 a', .int .i64 b', .int .i64 c', .int .i64 d', .int .i64 m'] 9).run Tryd.prog W = .ok (.int .i64 c') W := by kernel_rfl
  have y9 : (part 2 #[.int .i64 f, .string n, .string l, .string p, .string u, .string r, .int .u8 ty, .int .i64 a, .int .i64 b, .int .i64 c, .int .i64 d, .int .i64 m] 9).run Tryd.prog W = .ok (.int .i64 c) W := by kernel_rfl
  have e9 : (Op.equalIn 9999 2 (.int .i64 c') (.int .i64 c)).run Tryd.prog W = .ok (c' == c) W := run_equalIn_int W 9998 2 _ _ _ _ Tryd.underlying2
  have x10 : (part 2 #[.int .i64 f', .string n', .string l', .string p', .string u', .string r', .int .u8 ty', .int .i64 a', .int .i64 b', .int .i64 c', .int .i64 d', .int .i64 m'] 10).run Tryd.prog W = .ok (.int .i64 d') W := by kernel_rfl
  have y10 : (part 2 #[.int .i64 f, .string n, .string l, .string p, .string u, .string r, .int .u8 ty, .int .i64 a, .int .i64 b, .int .i64 c, .int .i64 d, .int .i64 m] 10).run Tryd.prog W = .ok (.int .i64 d) W := by kernel_rfl
  have e10 : (Op.equalIn 9999 2 (.int .i64 d') (.int .i64 d)).run Tryd.prog W = .ok (d' == d) W := run_equalIn_int W 9998 2 _ _ _ _ Tryd.underlying2
  have x11 : (part 2 #[.int .i64 f', .string n', .string l', .string p', .string u', .string r', .int .u8 ty', .int .i64 a', .int .i64 b', .int .i64 c', .int .i64 d', .int .i64 m'] 11).run Tryd.prog W = .ok (.int .i64 m') W := by kernel_rfl
  have y11 : (part 2 #[.int .i64 f, .string n, .string l, .string p, .string u, .string r, .int .u8 ty, .int .i64 a, .int .i64 b, .int .i64 c, .int .i64 d, .int .i64 m] 11).run Tryd.prog W = .ok (.int .i64 m) W := by kernel_rfl
  have e11 : (Op.equalIn 9999 2 (.int .i64 m') (.int .i64 m)).run Tryd.prog W = .ok (m' == m) W := run_equalIn_int W 9998 2 _ _ _ _ Tryd.underlying2
  simp only [Op.eqFields]
  rw [if_pos (by decide), Sem.run_bind, x0, Result.andThen_ok, Sem.run_bind, y0, Result.andThen_ok, Sem.run_bind, e0, Result.andThen_ok, Sem.run_ite]
  cases h0 : (f' == f)
  · rw [if_pos (by decide), Sem.run_pure]; simp only [Bool.false_and, Bool.and_false, Bool.true_and, Bool.false_eq_true]
  rw [if_neg (by decide)]
  rw [if_pos (by decide), Sem.run_bind, x1, Result.andThen_ok, Sem.run_bind, y1, Result.andThen_ok, Sem.run_bind, e1, Result.andThen_ok, Sem.run_ite]
  cases h1 : (n'.toList == n.toList)
  · rw [if_pos (by decide), Sem.run_pure]; simp only [Bool.false_and, Bool.and_false, Bool.true_and, Bool.false_eq_true]
  rw [if_neg (by decide)]
  rw [if_pos (by decide), Sem.run_bind, x2, Result.andThen_ok, Sem.run_bind, y2, Result.andThen_ok, Sem.run_bind, e2, Result.andThen_ok, Sem.run_ite]
  cases h2 : (l'.toList == l.toList)
  · rw [if_pos (by decide), Sem.run_pure]; simp only [Bool.false_and, Bool.and_false, Bool.true_and, Bool.false_eq_true]
  rw [if_neg (by decide)]
  rw [if_pos (by decide), Sem.run_bind, x3, Result.andThen_ok, Sem.run_bind, y3, Result.andThen_ok, Sem.run_bind, e3, Result.andThen_ok, Sem.run_ite]
  cases h3 : (p'.toList == p.toList)
  · rw [if_pos (by decide), Sem.run_pure]; simp only [Bool.false_and, Bool.and_false, Bool.true_and, Bool.false_eq_true]
  rw [if_neg (by decide)]
  rw [if_pos (by decide), Sem.run_bind, x4, Result.andThen_ok, Sem.run_bind, y4, Result.andThen_ok, Sem.run_bind, e4, Result.andThen_ok, Sem.run_ite]
  cases h4 : (u'.toList == u.toList)
  · rw [if_pos (by decide), Sem.run_pure]; simp only [Bool.false_and, Bool.and_false, Bool.true_and, Bool.false_eq_true]
  rw [if_neg (by decide)]
  rw [if_pos (by decide), Sem.run_bind, x5, Result.andThen_ok, Sem.run_bind, y5, Result.andThen_ok, Sem.run_bind, e5, Result.andThen_ok, Sem.run_ite]
  cases h5 : (r'.toList == r.toList)
  · rw [if_pos (by decide), Sem.run_pure]; simp only [Bool.false_and, Bool.and_false, Bool.true_and, Bool.false_eq_true]
  rw [if_neg (by decide)]
  rw [if_pos (by decide), Sem.run_bind, x6, Result.andThen_ok, Sem.run_bind, y6, Result.andThen_ok, Sem.run_bind, e6, Result.andThen_ok, Sem.run_ite]
  cases h6 : (ty' == ty)
  · rw [if_pos (by decide), Sem.run_pure]; simp only [Bool.false_and, Bool.and_false, Bool.true_and, Bool.false_eq_true]
  rw [if_neg (by decide)]
  rw [if_pos (by decide), Sem.run_bind, x7, Result.andThen_ok, Sem.run_bind, y7, Result.andThen_ok, Sem.run_bind, e7, Result.andThen_ok, Sem.run_ite]
  cases h7 : (a' == a)
  · rw [if_pos (by decide), Sem.run_pure]; simp only [Bool.false_and, Bool.and_false, Bool.true_and, Bool.false_eq_true]
  rw [if_neg (by decide)]
  rw [if_pos (by decide), Sem.run_bind, x8, Result.andThen_ok, Sem.run_bind, y8, Result.andThen_ok, Sem.run_bind, e8, Result.andThen_ok, Sem.run_ite]
  cases h8 : (b' == b)
  · rw [if_pos (by decide), Sem.run_pure]; simp only [Bool.false_and, Bool.and_false, Bool.true_and, Bool.false_eq_true]
  rw [if_neg (by decide)]
  rw [if_pos (by decide), Sem.run_bind, x9, Result.andThen_ok, Sem.run_bind, y9, Result.andThen_ok, Sem.run_bind, e9, Result.andThen_ok, Sem.run_ite]
  cases h9 : (c' == c)
  · rw [if_pos (by decide), Sem.run_pure]; simp only [Bool.false_and, Bool.and_false, Bool.true_and, Bool.false_eq_true]
  rw [if_neg (by decide)]
  rw [if_pos (by decide), Sem.run_bind, x10, Result.andThen_ok, Sem.run_bind, y10, Result.andThen_ok, Sem.run_bind, e10, Result.andThen_ok, Sem.run_ite]
  cases h10 : (d' == d)
  · rw [if_pos (by decide), Sem.run_pure]; simp only [Bool.false_and, Bool.and_false, Bool.true_and, Bool.false_eq_true]
  rw [if_neg (by decide)]
  rw [if_pos (by decide), Sem.run_bind, x11, Result.andThen_ok, Sem.run_bind, y11, Result.andThen_ok, Sem.run_bind, e11, Result.andThen_ok, Sem.run_ite]
  cases h11 : (m' == m)
  · rw [if_pos (by decide), Sem.run_pure]; simp only [Bool.false_and, Bool.and_false, Bool.true_and, Bool.false_eq_true]
  rw [if_neg (by decide)]
  rw [Sem.run_pure]; simp only [Bool.true_and, Bool.and_true]

end Go.Proofs.YtmholjjicklnhacDoor
