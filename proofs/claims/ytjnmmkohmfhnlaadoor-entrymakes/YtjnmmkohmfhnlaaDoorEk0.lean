/-
  What Make says of a header of a kind.
-/
import Derived.Test.YtjnmmkohmfhnlaaDoorOpen
import Derived.Laws.BitsLemmas
import Derived.ProofKit
namespace Go.Proofs.YtjnmmkohmfhnlaaDoor
open Go.ChangeShapes Go.WideShapes Go.RowKit
set_option linter.unusedVariables false
set_option linter.unusedSimpArgs false

theorem mode_and (m : Int) : bits .and .i64 m 4095 = m % 4096 := by
  have hb : IntKind.i64.bits = 64 := rfl
  simp only [bits, BitVec.toNat_and, BitVec.toNat_ofInt, hb]
  have e : ((4095 : Int) % ((2 ^ 64 : Nat) : Int)).toNat = 2 ^ 12 - 1 := by decide
  rw [e, Nat.and_two_pow_sub_one_eq_mod, IntKind.wrap_i64]
  have e2 : ((2 ^ 64 : Nat) : Int) = 18446744073709551616 := by decide
  have e3 : (2 : Nat) ^ 12 = 4096 := by decide
  rw [e2, e3]
  omega

/-- what Make says of a header of a kind, with a long link alone ahead of it -/
theorem kinds_make (x : Hd) (link : ByteArray) (w : World) (hv : Vs w) (fx : HdFit x) (hk : ¬ kd x.typ = 0) (s0 : 0 ≤ x.size) (u0 : 0 ≤ x.uid) (g0 : 0 ≤ x.gid) :
    ∃ P L : ByteArray, ∃ K M S : Int, (0 ≤ M ∧ M ≤ 4095) ∧
      ((kd x.typ = 1 ∧ K = 1 ∧ L = ⟨#[]⟩) ∨ ((kd x.typ = 1 ∨ kd x.typ = 4) ∧ K = 4 ∧ S = 0 ∧ L = ⟨#[]⟩) ∨ (K = kd x.typ ∧ (K = 2 ∨ K = 3) ∧ S = 0 ∧ (emp link = true ∨ L = link))) ∧
      ∀ W, Below w.heap.size w W → Calls Tryd.prog 10 #[.agg x.cells, .agg (noA noE link).cells] W fun ev w' => ev = .returned (.tuple #[.agg #[.string P, .string L, .int .i64 K, .int .i64 M, .int .i64 x.uid, .int .i64 x.gid, .int .i64 x.mtime, .int .i64 S, .string x.user, .string x.group], .int .i64 0]) ∧ Below W.heap.size W w' := by
  have hF := noA_full x noE link
  rw [or2_none, mode_and] at hF
  have hkr : kd x.typ = 1 ∨ kd x.typ = 2 ∨ kd x.typ = 3 ∨ kd x.typ = 4 := by
    unfold kd at hk ⊢
    repeat' split
    all_goals simp_all
  have hm : 0 ≤ x.mode % 4096 ∧ x.mode % 4096 ≤ 4095 := by omega
  have hn : ¬ neg x (noA noE link) := by
    unfold neg
    rw [hF]
    show ¬ ((if _ then x.size else 0) < 0 ∨ x.uid < 0 ∨ x.gid < 0)
    split <;> omega
  have hC : ∀ W, Below w.heap.size w W → Calls Tryd.prog 10 #[.agg x.cells, .agg (noA noE link).cells] W fun ev w' => ev = .returned (.tuple #[.agg (fullE x (noA noE link)).cells, .int .i64 0]) ∧ Below W.heap.size W w' := fun W hb =>
    make_ok (noA_fit x noE link W (by have := fx.prefx; omega) (by have := fx.name; omega) (by show (0 : Nat) ≤ _; omega)) (hv.below hb) hk (noA_bad _ _ _) hn
  rw [hF] at hC
  refine ⟨_, _, _, _, _, hm, ?_, hC⟩
  show (kd x.typ = 1 ∧ kindF _ x.form = 1 ∧ (if kindF _ x.form = 2 ∨ kindF _ x.form = 3 then or2 link x.link else ⟨#[]⟩) = ⟨#[]⟩) ∨ ((kd x.typ = 1 ∨ kd x.typ = 4) ∧ kindF _ x.form = 4 ∧ (if kindF _ x.form = 1 then x.size else 0) = 0 ∧ (if kindF _ x.form = 2 ∨ kindF _ x.form = 3 then or2 link x.link else ⟨#[]⟩) = ⟨#[]⟩) ∨ (kindF _ x.form = kd x.typ ∧ (kindF _ x.form = 2 ∨ kindF _ x.form = 3) ∧ (if kindF _ x.form = 1 then x.size else 0) = 0 ∧ (emp link = true ∨ (if kindF _ x.form = 2 ∨ kindF _ x.form = 3 then or2 link x.link else ⟨#[]⟩) = link))
  have hkf : kindF ⟨or2 noE x.full, or2 link x.link, kd x.typ, x.mode % 4096, x.uid, x.gid, x.mtime, x.size, x.user, x.group⟩ x.form = kd x.typ ∨ (kd x.typ = 1 ∧ kindF ⟨or2 noE x.full, or2 link x.link, kd x.typ, x.mode % 4096, x.uid, x.gid, x.mtime, x.size, x.user, x.group⟩ x.form = 4) := by
    unfold kindF
    split
    · rename_i h; exact .inr ⟨h.1, rfl⟩
    · exact .inl rfl
  rw [or2_none] at hkf
  rcases hkf with h | ⟨h1, h⟩
  · rw [h]
    rcases hkr with h1 | h1 | h1 | h1 <;> rw [h1]
    · left; simp
    · right; right
      refine ⟨rfl, .inl rfl, by simp, ?_⟩
      cases he : emp link with
      | true => exact .inl rfl
      | false => right; simp [or2, he]
    · right; right
      refine ⟨rfl, .inr rfl, by simp, ?_⟩
      cases he : emp link with
      | true => exact .inl rfl
      | false => right; simp [or2, he]
    · right; left; simp
  · rw [h, h1]
    right; left; simp

theorem blk (W W1 : World) (hb : Below W.heap.size W W1) (cs : Array Value) (t : TypeId) : ∀ w0 : World, W = w0.alloc (.cells cs t) → ∀ j v, cs[j]? = some v → W1.cell? ⟨w0.heap.size, j, none⟩ = some v := by
  rintro w0 rfl j v h
  exact cell_grow (alloc_cell w0 cs t j v h) hb

end Go.Proofs.YtjnmmkohmfhnlaaDoor
