/-
  'append([]byte{}, x...)' of bytes that are there: a row of its own with the same bytes.
-/
import Derived.Test.YtmholjjicklnhaaHead
import Derived.Laws.AppendOwn
import Derived.OwnWalk
namespace Go.Proofs.Ytmholjjicklnhaa
open Go.RowKit
set_option linter.unusedVariables false
set_option linter.unusedSimpArgs false

theorem wpList_copied {W : World} {ops : Array Oper} {rest : List Oper} {o : Oper} {a : Act} {Q : Exit → Act → World → Prop} (hgd : o.guard = none) (s x : Operand)
    (ho : o.op = .call { callee := .builtin .append, args := #[s, x], argTypes := #[22, 22] })
    (hs : a.eval s = .slice (some ⟨W.heap.size, 0, none⟩) 0 0) (ad : Addr) (n c : Nat) (zs : List Int) (hn : zs.length = n) (hx : a.eval x = .slice (some ad) n c) (hsrc : Src W (some ad) zs) (hl : n ≤ 2000)
    (h : ∀ g c' w', n ≤ c' → c' ≤ 9223372036854775807 → Own W w' g zs → wpList Try.prog ops Q rest (a.put o.dst (.slice (some ⟨g, 0, none⟩) n c')) w') : wpList Try.prog ops Q (o :: rest) a (W.alloc (.cells #[] 5)) := by
  subst hn
  obtain ⟨i0, hi0, hi1, hi2, hi3⟩ := info5
  have hown : (W.alloc (.cells #[] 5)).ownsRow W.heap.size 5 1 (.slice (some ⟨W.heap.size, 0, none⟩) 0 0) 0 [] := ⟨rfl, .inr ⟨_, 0, #[], rfl, Nat.le_refl _, heap_alloc_new W _, Nat.le_refl _, by unfold maxLen; omega, rfl, rfl⟩⟩
  have bA : Below W.heap.size W (W.alloc (.cells #[] 5)) := (Below.refl _ W).alloc (Nat.le_refl _) _
  refine wpList_append_own _ hgd s x 22 ho W.heap.size 5 i0 (.int .u8 0) 1 1 Try.underlying22 hi0 hi3 hi1 hi2 rfl (by decide) _ _ _ hs hown ad zs.length c (cellsOf zs) hx ?_ ?_ ?_ ?_ ?_ ?_ ?_
  · rw [cellsOf_length, Nat.mul_one]
  · intro j v hv
    have hj := (List.getElem?_eq_some_iff.1 hv).1
    rw [cellsOf_length] at hj
    rw [(hsrc.grow bA).cell j hj, ← hv]
    simp [cellsOf, hj]
  · exact oneCell_bytes zs
  · unfold maxLen; omega
  · omega
  · simp
  · intro v' w3 hown' hgrow hh
    have b3 : Below W.heap.size W w3 := bA.grown hgrow (by simp) (fun k hk => by simp [Value.ownBlock] at hk; omega)
    rcases hown'.2 with ⟨e1, e2⟩ | ⟨g, c', cur, e1, e2, e3, e4, e5, e6, e7⟩
    · have := (hh.1 e1).1
      cases this
    · rw [e1, Nat.zero_add] at *
      refine h g c' w3 (by omega) (by unfold maxLen at e5; omega) ⟨b3, e2, cur.toList.drop zs.length, ?_⟩
      rw [e3]
      congr 2
      apply Array.ext'
      simp only [Nat.mul_one, List.nil_append] at e7
      rw [← e7]
      simp [List.take_append_drop]

/-- Bytes with a number's octal digits written into them, from behind. -/
theorem digit_step (L M T : List Int) (x : Int) (m : Nat) (c : Int) : (L ++ (M ++ [c]) ++ T).set (L.length + M.length) (48 + x % 8) = L ++ M ++ ((48 + x % 8) :: T) := by
  rw [List.append_assoc, List.append_assoc, List.set_append_right _ _ (by omega)]
  rw [show L.length + M.length - L.length = M.length by omega, List.set_append_right _ _ (by omega)]
  simp

end Go.Proofs.Ytmholjjicklnhaa
