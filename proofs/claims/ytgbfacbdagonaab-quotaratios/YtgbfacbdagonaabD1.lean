/-
  Contract: pannierref15.digits; a row of numbers of one's own.
-/
import Derived.Test.YtgbfacbdagonaabQ1
import Derived.Test.YtgbfacbdagonaabD0
import Derived.Laws.AppendOwn
import Derived.Laws.AppendOwnNone
namespace Go.Proofs.Ytgbfacbdagonaab
open Go.RowKit
set_option linter.unusedVariables false
set_option linter.unusedSimpArgs false

def numCells (ids : List Nat) : List Value := ids.map fun (z : Nat) => Value.int .i64 (z : Int)
theorem numCells_length (ids : List Nat) : (numCells ids).length = ids.length := by simp [numCells]

theorem i3 : ∃ i, Try.prog.info? 3 = some i ∧ i.size = 1 ∧ i.bytes = 8 ∧ i.zero = some (.int .i64 0) := by
  have a : (Try.prog.info? 3).map (fun i => (i.size, i.bytes)) = some (1, 8) := by kernel_rfl
  have b : (Try.prog.info? 3).bind (fun i => i.zero) = some (.int .i64 0) := by kernel_rfl
  cases h : Try.prog.info? 3 with
  | none => rw [h] at a; simp at a
  | some i => rw [h] at a b; simp at a b; exact ⟨i, rfl, a.1, a.2, b⟩

def Own (w : World) (B : Nat) (v : Value) (ids : List Nat) : Prop := w.ownsRow B 3 1 v ids.length (numCells ids)

theorem Own.nil (w : World) (B : Nat) : Own w B (.slice none 0 0) [] := World.ownsRow_nil _ _ _ _

theorem wpList_push {W : World} {ops : Array Oper} {rest : List Oper} {o : Oper} {a : Act} {Q : Exit → Act → World → Prop} (hgd : o.guard = none) (s x : Operand)
    (ho : o.op = .call { callee := .builtin .append, args := #[s, x], argTypes := #[45, 45] })
    (B : Nat) (v : Value) (ks : List Nat) (k : Nat) (hs : a.eval s = v) (hown : Own W B v ks) (hB : B ≤ W.heap.size) (hx : a.eval x = .slice (some ⟨W.heap.size, 0, none⟩) 1 1) (hl : ks.length ≤ 2000)
    (h : ∀ g' c' w', Own w' B (.slice (some ⟨g', 0, none⟩) (ks.length + 1) c') (ks ++ [k]) → Below B W w' → wpList Try.prog ops Q rest (a.put o.dst (.slice (some ⟨g', 0, none⟩) (ks.length + 1) c')) w') : wpList Try.prog ops Q (o :: rest) a (W.alloc (.cells #[.int .i64 (k : Int)] 3)) := by
  obtain ⟨i0, hi0, hi1, hi2, hi3⟩ := i3
  have bA : Below W.heap.size W (W.alloc (.cells #[.int .i64 (k : Int)] 3)) := below_alloc W _
  have hown2 : (W.alloc (.cells #[.int .i64 (k : Int)] 3)).ownsRow B 3 1 v ks.length (numCells ks) := World.ownsRow.alloc hown _
  refine wpList_append_own _ hgd s x 45 ho B 3 i0 (.int .i64 0) 1 8 Try.underlying45 hi0 hi3 hi1 hi2 rfl (by decide) _ _ _ hs hown2 ⟨W.heap.size, 0, none⟩ 1 1 [.int .i64 (k : Int)] hx rfl ?_ ?_ ?_ ?_ ?_ ?_
  · intro q u hu
    cases q with
    | zero => simp at hu; subst hu; simp [Addr.add, World.cell?_alloc_new]
    | succ q => simp at hu
  · intro u hu; simp at hu; subst hu; rfl
  · unfold maxLen; omega
  · omega
  · simp
    rcases hown.2 with ⟨e1, _⟩ | ⟨g', cp, cur, e1, e2, e3, _⟩
    · omega
    · omega
  · intro v' w3 hown' hgrow hh
    have b3 : Below B W w3 := (bA.mono hB).grown hgrow (by rw [size_alloc]; omega) (fun k hk => by
      rcases hown.2 with ⟨e1, _⟩ | ⟨g', cp, cur, e1, e2, _⟩
      · subst e1; simp [Value.ownBlock] at hk
      · subst e1; simp [Value.ownBlock] at hk; omega)
    obtain ⟨g', c', rfl⟩ : ∃ g' c', v' = .slice (some ⟨g', 0, none⟩) (ks.length + 1) c' := by
      rcases hown'.2 with ⟨e1, e2⟩ | ⟨g', c', cur, e1, _⟩
      · omega
      · exact ⟨g', c', e1⟩
    refine h g' c' w3 ?_ b3
    unfold Own
    rw [List.length_append]
    simpa [numCells] using hown'

/-- a slice's numbers -/
def Ns (w : World) (ad : Option Addr) (ks : List Nat) : Prop := 0 < ks.length → ∃ g, ad = some ⟨g, 0, none⟩ ∧ g < w.heap.size ∧ ∀ (j z : Nat), ks[j]? = some z → w.cell? ⟨g, j, none⟩ = some (.int .i64 (z : Int))

theorem Own.ns {w : World} {B : Nat} {ad : Option Addr} {n c : Nat} {ks : List Nat} (h : Own w B (.slice ad n c) ks) : n = ks.length ∧ Ns w ad ks := by
  rcases h.2 with ⟨e1, e2⟩ | ⟨g, cap, cur, e1, e2, e3, e4, e5, e6, e7⟩
  · cases e1; exact ⟨e2.symm, fun h => by omega⟩
  · cases e1
    refine ⟨rfl, fun _ => ⟨g, rfl, (Array.getElem?_eq_some_iff.1 e3).1, fun j z hz => ?_⟩⟩
    unfold World.cell?
    simp only [e3]
    have hj : (numCells ks)[j]? = some (.int .i64 (z : Int)) := by simp [numCells, hz]
    rw [← e7, List.getElem?_take] at hj
    split at hj
    · simpa using hj
    · cases hj

set_option maxHeartbeats 2000000 in
theorem digits_w (n : Nat) (hn : n < 9223372036854775808) (w : World) :
    Calls Try.prog 18 #[.int .i64 (n : Int)] w fun e w' => ∃ ad c, e = .returned (.slice ad (dg n).length c) ∧ Ns w' ad (dg n) ∧ Below w.heap.size w w' := by
  have hlen := dg_len 7 n (by omega)
  go_enter Try.func18, Try.ntmps18
  go_wp2
  go_loopw [0, 3] (fun x v wr => ∃ (k : Nat) (ks : List Nat), x = .int .i64 (k : Int) ∧ k < 9223372036854775808 ∧ Hid (Own wr w.heap.size v ks) ∧ Hid (dg n = ks ++ dg k) ∧ Below w.heap.size w wr) (fun x _ _ => (intOf x).toNat)
  case atStart => exact ⟨n, [], rfl, hn, Own.nil _ _, rfl, Below.refl _ _⟩
  case round =>
    obtain ⟨k, ks, rfl, hk, HO, HD, bb⟩ := hrel
    by_cases h0 : k = 0
    · subst h0
      have e := HD.out
      rw [dg_zero, List.append_nil] at e
      obtain ⟨ad, c, rfl⟩ : ∃ ad c, u3 = .slice ad ks.length c := by
        rcases HO.out.2 with ⟨e1, e2⟩ | ⟨g, cap, cur, e1, _⟩
        · exact ⟨none, 0, by rw [e1, e2]⟩
        · exact ⟨_, _, e1⟩
      clear hk
      go_wp2_with fail
      go_ret
      exact ⟨ad, c, by rw [e]; rfl, by rw [e]; exact (Own.ns HO.out).2, bb⟩
    · have hpos : (0 : Int) < (k : Int) := by omega
      have hr : Int.tmod (k : Int) 1000 = ((k % 1000 : Nat) : Int) := by rw [Int.tmod_eq_emod_of_nonneg (by omega)]; omega
      have hq : Int.tdiv (k : Int) 1000 = ((k / 1000 : Nat) : Int) := by rw [Int.tdiv_eq_ediv_of_nonneg (by omega)]; omega
      have hkl : Hid (ks.length ≤ 2000) := (by have := congrArg List.length HD.out; rw [List.length_append] at this; show _ ≤ _; omega)
      have HD2 : Hid (dg n = (ks ++ [k % 1000]) ++ dg (k / 1000)) := (by show _ = _; rw [HD.out, dg_pos h0]; simp)
      have hk2 : k / 1000 < k := by omega
      clear HD
      generalize k % 1000 = r at *
      generalize k / 1000 = k' at *
      go_wp2_with (at_builtin; refine wpList_push rfl _ _ rfl w.heap.size u3 ks r rfl HO.out bb.size rfl hkl.out ?_; intro g' c' w2 O2 b2)
      go_roundw
      case rel => exact ⟨k', ks ++ [r], rfl, by omega, O2, HD2, bb.trans b2⟩
      case measure => simp [intOf]; omega

end Go.Proofs.Ytgbfacbdagonaab
