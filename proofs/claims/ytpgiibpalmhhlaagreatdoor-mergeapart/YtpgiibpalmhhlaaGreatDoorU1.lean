/-
  Contract: usage.Of.
-/
import Derived.Test.YtpgiibpalmhhlaaGreatDoorU0
namespace Go.Proofs.YtpgiibpalmhhlaaGreatDoor
open Go.RowKit
open Go.Lib hiding intOf
set_option linter.unusedVariables false
set_option linter.unusedSimpArgs false

/-- what was measured, and the numbers that were counted -/
structure Us where
  b : Nat
  n : Nat
  d : Nat
  l : Nat
  S : List Int

def bytesN (r : Rw) : Nat := if r.kind = 1 then r.size.toNat else 0
def stepU (u : Us) (r : Rw) : Us :=
  if r.p = [] then u
  else if r.id ∈ u.S then ⟨u.b, u.n, max u.d (prt r.p).length, max u.l r.p.length, u.S⟩
  else ⟨u.b + bytesN r, u.n + 1, max u.d (prt r.p).length, max u.l r.p.length, r.id :: u.S⟩
def ofU (L : List Rw) : Us := L.foldl stepU ⟨0, 0, 0, 0, []⟩

theorem ofU_succ (L : List Rw) (i : Nat) (r : Rw) (h : L[i]? = some r) : ofU (L.take (i + 1)) = stepU (ofU (L.take i)) r := by
  obtain ⟨hi, e⟩ := List.getElem?_eq_some_iff.1 h
  unfold ofU
  rw [List.take_succ_eq_append_getElem hi, List.foldl_append, e]
  rfl

/-- rows that can be measured -/
structure Okr (r : Rw) : Prop where
  p : r.p.length ≤ 1000000
  id : -9223372036854775808 ≤ r.id ∧ r.id ≤ 9223372036854775807
  size : 0 ≤ r.size ∧ r.size ≤ 1048576

theorem ofU_small (L : List Rw) (h : ∀ r ∈ L, Okr r) : (ofU L).b ≤ 1048576 * L.length ∧ (ofU L).n ≤ L.length ∧ (ofU L).l ≤ 1000000 := by
  suffices H : ∀ (L : List Rw) (u : Us) (k : Nat), (∀ r ∈ L, Okr r) → u.b ≤ 1048576 * k → u.n ≤ k → u.l ≤ 1000000 → (L.foldl stepU u).b ≤ 1048576 * (k + L.length) ∧ (L.foldl stepU u).n ≤ k + L.length ∧ (L.foldl stepU u).l ≤ 1000000 by
    have := H L ⟨0, 0, 0, 0, []⟩ 0 h (by simp) (by simp) (by simp)
    rw [Nat.zero_add] at this
    exact this
  intro L
  induction L with
  | nil => intro u k _ h1 h2 h3; exact ⟨by simpa using h1, by simpa using h2, h3⟩
  | cons r L ih =>
    intro u k hr h1 h2 h3
    have hr0 := hr r (by simp)
    have hs : bytesN r ≤ 1048576 := by
      unfold bytesN
      split
      · have := hr0.size; omega
      · omega
    have := hr0.p
    have key : (stepU u r).b ≤ 1048576 * (k + 1) ∧ (stepU u r).n ≤ k + 1 ∧ (stepU u r).l ≤ 1000000 := by
      unfold stepU
      split
      · exact ⟨by omega, by omega, h3⟩
      · split
        · exact ⟨by show u.b ≤ _; omega, by show u.n ≤ _; omega, by show max u.l r.p.length ≤ _; omega⟩
        · exact ⟨by show u.b + bytesN r ≤ _; omega, by show u.n + 1 ≤ _; omega, by show max u.l r.p.length ≤ _; omega⟩
    have := ih (stepU u r) (k + 1) (fun q hq => hr q (by simp [hq])) key.1 key.2.1 key.2.2
    rw [List.foldl_cons, List.length_cons]
    rw [show k + (L.length + 1) = k + 1 + L.length by omega]
    exact this

/-- what Of keeps in memory -/
structure Oi (w W : World) (T : Array Value) (b n d l : Nat) : Prop where
  tre : W.heap[w.heap.size]? = some (.cells T 26 (0, 0))
  res : W.heap[w.heap.size + 1]? = some (.cells #[.int .i64 0, .int .i64 0, .int .i64 0, .int .i64 0] 55 (0, 0))
  use : W.heap[w.heap.size + 2]? = some (.cells #[.int .i64 (b : Int), .int .i64 (n : Int), .int .i64 (d : Int), .int .i64 (l : Int)] 55 (0, 0))
  bel : Below w.heap.size w W
  lt : w.heap.size + 4 ≤ W.heap.size

theorem Oi.next {w W W' : World} {T : Array Value} {b n d l : Nat} (h : Oi w W T b n d l) (k : W.grownBy W' (some (w.heap.size + 3))) : Oi w W' T b n d l := by
  have := h.lt
  refine ⟨by rw [k.block _ (by omega) (by simp)]; exact h.tre, by rw [k.block _ (by omega) (by simp)]; exact h.res, by rw [k.block _ (by omega) (by simp)]; exact h.use, ?_, Nat.le_trans h.lt k.size⟩
  exact h.bel.grown k h.bel.size (fun q hq => by cases hq; omega)
theorem Oi.below {w W W' : World} {T : Array Value} {b n d l : Nat} (h : Oi w W T b n d l) (k : Below W.heap.size W W') : Oi w W' T b n d l := h.next (grown_below k)
theorem Oi.drew {w W : World} {T : Array Value} {b n d l : Nat} (h : Oi w W T b n d l) : Oi w W.drew T b n d l := ⟨h.tre, h.res, h.use, h.bel.drew, h.lt⟩

/-- one of the four numbers is set -/
theorem Oi.set {w W : World} {T : Array Value} {b n d l b' n' d' l' : Nat} (h : Oi w W T b n d l) (k : Nat) (v : Value) (hv : (#[.int .i64 (b : Int), .int .i64 (n : Int), .int .i64 (d : Int), .int .i64 (l : Int)] : Array Value).setIfInBounds k v = #[.int .i64 (b' : Int), .int .i64 (n' : Int), .int .i64 (d' : Int), .int .i64 (l' : Int)]) : Oi w (W.setCell ⟨w.heap.size + 2, k, none⟩ v) T b' n' d' l' := by
  have e := setCell_eq_setRow W (w.heap.size + 2) k _ 55 (0, 0) v h.use
  rw [hv] at e
  rw [e]
  refine ⟨by rw [setRow_other _ _ _ _ (by omega)]; exact h.tre, by rw [setRow_other _ _ _ _ (by omega)]; exact h.res, setRow_heap _ _ _ _ _ _ h.use, below_setRow h.bel (by omega) _, by rw [setRow_size]; exact h.lt⟩

theorem Cnt.set {W : World} {gm n : Nat} {S : List Int} (h : Cnt W gm n S) (p : Addr) (v : Value) (hp : gm ≠ p.block) : Cnt (W.setCell p v) gm n S := by
  refine h.kept (row := some p.block) ⟨rfl, rfl, rfl, by simp, fun i _ hi => ?_⟩ (by simpa using hp)
  exact Below.heap_setCell W p v i (fun e => hi (by rw [e]))
theorem Cnt.below {W W' : World} {gm n : Nat} {S : List Int} (h : Cnt W gm n S) (k : Below W.heap.size W W') : Cnt W' gm n S := h.kept (grown_below (row := none) k) (by simp)
theorem Cnt.drew {W : World} {gm n : Nat} {S : List Int} (h : Cnt W gm n S) : Cnt W.drew gm n S := by
  obtain ⟨D, h1, h2, h3⟩ := h.own
  exact ⟨D, h1.drew, h2, h3⟩

end Go.Proofs.YtpgiibpalmhhlaaGreatDoor
