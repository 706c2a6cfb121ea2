/-
  A row of contents of one's own: 'Cs w B v xs'; the store's contents in any order.
-/
import Derived.Test.YtpjfhfbjdcgbjabInts
import Derived.Test.YtpjfhfbjdcgbjabWrap2
namespace Go.Proofs.Ytpjfhfbjdcgbjab
open Go.ChangeShapes Go.WideShapes Go.ChangeAt Go.RowKit
set_option linter.unusedVariables false
set_option linter.unusedSimpArgs false

theorem tot_perm {a b : List Ct} (h : a.Perm b) (z : Int) : tot a z = tot b z := by
  induction h with
  | nil => rfl
  | cons x _ ih => simp [tot, ih]
  | swap x y l => simp [tot]; omega
  | trans _ _ h1 h2 => exact h1.trans h2

theorem Inv.perm {ss : List Slot} {fr : List Nat} {a b : List Ct} (h : Inv ss fr a) (hp : a.Perm b) : Inv ss fr b :=
  ⟨h.good, fun c hc => h.lies c (hp.mem_iff.2 hc), fun i s hs => by rw [← tot_perm hp]; exact h.acc i s hs⟩

/-- how many blocks all contents have -/
def lens : List Ct → Nat
  | [] => 0
  | c :: r => c.1.length + lens r

theorem tot_lens : ∀ (cs : List Ct) (z : Int), tot cs z ≤ lens cs
  | [], z => by simp [tot, lens]
  | c :: r, z => by
    have := tot_lens r z
    have := List.count_le_length (a := z) (l := c.1)
    simp only [tot, lens]; omega

theorem Inv.most {ss : List Slot} {fr : List Nat} {cs : List Ct} (h : Inv ss fr cs) : ∀ s ∈ ss, s.holds ≤ lens cs := by
  intro s hs
  obtain ⟨i, hi⟩ := List.getElem?_of_mem hs
  rw [h.acc i s hi]
  exact tot_lens _ _

theorem Inv.lens_le {ss : List Slot} {fr : List Nat} : ∀ {cs : List Ct} (m : Nat), (∀ c ∈ cs, Lies ss c.1 c.2) → (∀ c ∈ cs, c.2.length ≤ m) → lens cs ≤ cs.length * (m + 1)
  | [], m, _, _ => by simp [lens]
  | c :: r, m, hl, hm => by
    have h1 := Inv.lens_le (fr := fr) (cs := r) m (fun x hx => hl x (by simp [hx])) (fun x hx => hm x (by simp [hx]))
    have h2 := (hl c (by simp)).len
    have h3 := hm c (by simp)
    unfold need at h2
    simp only [lens, List.length_cons]
    have : (r.length + 1) * (m + 1) = r.length * (m + 1) + (m + 1) := by rw [Nat.add_mul]; omega
    omega

/-- a content where it lies: its list's address, room, numbers; its bytes -/
structure Cn where
  a : Option Addr
  c : Nat
  ids : List Int
  L : List Int

def Cn.ct (x : Cn) : Ct := (x.ids, x.L)
def Cn.val (x : Cn) : Value := .slice x.a x.ids.length x.c
def Cn.cells (x : Cn) : List Value := [x.val, .int .i64 (x.L.length : Int)]
def rowC : List Cn → List Value
  | [] => []
  | x :: r => x.cells ++ rowC r

theorem rowC_append : ∀ (a b : List Cn), rowC (a ++ b) = rowC a ++ rowC b
  | [], b => rfl
  | x :: r, b => by simp [rowC, rowC_append r b]

theorem rowC_length : ∀ (xs : List Cn), (rowC xs).length = xs.length * 2
  | [] => rfl
  | x :: r => by simp [rowC, Cn.cells, rowC_length r]; omega

theorem rowC_get : ∀ (xs : List Cn) (i : Nat) (x : Cn), xs[i]? = some x → (rowC xs)[i * 2]? = some x.val ∧ (rowC xs)[i * 2 + 1]? = some (.int .i64 (x.L.length : Int))
  | [], i, x, h => by simp at h
  | y :: r, 0, x, h => by simp at h; subst h; simp [rowC, Cn.cells]
  | y :: r, i + 1, x, h => by
    simp at h
    have := rowC_get r i x h
    have e1 : (i + 1) * 2 = i * 2 + 2 := by omega
    have e2 : (i + 1) * 2 + 1 = i * 2 + 1 + 2 := by omega
    rw [e1]
    simp only [rowC, Cn.cells]
    constructor
    · simpa using this.1
    · simpa using this.2

structure Cs (w : World) (B : Nat) (v : Value) (xs : List Cn) : Prop where
  row : w.ownsRow B 35 2 v xs.length (rowC xs)
  own : ∀ x ∈ xs, Own w B x.val x.ids

theorem owns_row_moved {W W' : World} {B : Nat} {e : TypeId} {size n : Nat} {v : Value} {ys : List Value} (h : W.ownsRow B e size v n ys) (hb : ∀ g, v.ownBlock = some g → B ≤ g → g < W.heap.size → W'.heap[g]? = W.heap[g]?) : W'.ownsRow B e size v n ys := by
  refine ⟨h.1, ?_⟩
  rcases h.2 with h2 | ⟨g, cap, cur, e1, e2, e3, e4⟩
  · exact .inl h2
  · exact .inr ⟨g, cap, cur, e1, e2, (hb g (by rw [e1]; rfl) e2 (lt_of_heap e3)).trans e3, e4⟩

theorem Cs.moved {W W' : World} {B : Nat} {v : Value} {xs : List Cn} (h : Cs W B v xs) (hb : ∀ g, B ≤ g → g < W.heap.size → W'.heap[g]? = W.heap[g]?) : Cs W' B v xs :=
  ⟨owns_row_moved h.row fun g _ h1 h2 => hb g h1 h2, fun x hx => (h.own x hx).moved fun g h1 h2 _ => hb g h1 h2⟩

theorem Cs.keeps {W W' : World} {B p S F : Nat} {v : Value} {xs : List Cn} (h : Cs W B v xs) (hk : Keeps p S F W W') (h1 : p < B) (h2 : S < B) (h3 : F < B) : Cs W' B v xs :=
  h.moved fun g hg hl => hk.block g hl (by omega) (by omega) (by omega)

theorem Cs.grow {W W' : World} {B : Nat} {v : Value} {xs : List Cn} (h : Cs W B v xs) (hb : Below W.heap.size W W') : Cs W' B v xs :=
  h.moved fun g _ hl => hb.block g hl

theorem cs_nil (w : World) (B : Nat) : Cs w B (.slice none 0 0) [] := ⟨⟨rfl, .inl ⟨rfl, rfl⟩⟩, fun x hx => by simp at hx⟩

theorem Cs.len {w : World} {B n c : Nat} {a : Option Addr} {xs : List Cn} (h : Cs w B (.slice a n c) xs) : n = xs.length ∧ n ≤ c ∧ c ≤ 9223372036854775807 := by
  rcases h.row.2 with ⟨e, h0⟩ | ⟨g, cap, cur, e, _, _, h1, h2, _⟩
  · simp at e; rw [e.2.1, e.2.2, h0]; exact ⟨rfl, by omega, by omega⟩
  · simp at e; rw [e.2.1, e.2.2]; unfold maxLen at h2; exact ⟨rfl, h1, by omega⟩

/-- one content out of the row -/
theorem Cs.get {w : World} {B n c : Nat} {a : Option Addr} {xs : List Cn} (h : Cs w B (.slice a n c) xs) {i : Nat} {x : Cn} (hi : xs[i]? = some x) :
    ∃ g, a = some ⟨g, 0, none⟩ ∧ B ≤ g ∧ g < w.heap.size ∧ w.cell? ⟨g, i * 2, none⟩ = some x.val ∧ w.cell? ⟨g, i * 2 + 1, none⟩ = some (.int .i64 (x.L.length : Int)) ∧ (∀ o, w.frozen? ⟨g, o, none⟩ = false) := by
  have hlt := (List.getElem?_eq_some_iff.1 hi).1
  rcases h.row.2 with ⟨e, h0⟩ | ⟨g, cap, cur, e, hB, hg, h1, h2, h3, h4⟩
  · omega
  · simp at e
    obtain ⟨rfl, rfl, rfl⟩ := e
    obtain ⟨g1, g2⟩ := rowC_get xs i x hi
    have q : ∀ o u, (rowC xs)[o]? = some u → w.cell? ⟨g, o, none⟩ = some u := by
      intro o u hu
      rw [← h4, List.getElem?_take] at hu
      split at hu
      · simp only [World.cell?, hg]; simpa using hu
      · cases hu
    exact ⟨g, rfl, hB, lt_of_heap hg, q _ _ g1, q _ _ g2, fun o => by simp [World.frozen?, hg]⟩

theorem i35 : ∃ i, Try.prog.info? 35 = some i ∧ i.size = 2 ∧ i.bytes = 32 ∧ i.zero = some (.agg #[.slice none 0 0, .int .i64 0]) := by
  have a : (Try.prog.info? 35).map (fun i => (i.size, i.bytes)) = some (2, 32) := by kernel_rfl
  have b : (Try.prog.info? 35).bind (fun i => i.zero) = some (.agg #[.slice none 0 0, .int .i64 0]) := by kernel_rfl
  cases h : Try.prog.info? 35 with
  | none => rw [h] at a; simp at a
  | some i => rw [h] at a b; simp at a b; exact ⟨i, rfl, a.1, a.2, b⟩

theorem wpList_pushC {W : World} {ops : Array Oper} {rest : List Oper} {o : Oper} {a : Act} {Q : Exit → Act → World → Prop} (hgd : o.guard = none) (s x : Operand)
    (ho : o.op = .call { callee := .builtin .append, args := #[s, x], argTypes := #[28, 28] })
    (B n c : Nat) (av : Option Addr) (xs : List Cn) (k : Cn) (sz : Int) (hsz : (k.L.length : Int) = sz) (hs : a.eval s = .slice av n c) (hown : Cs W B (.slice av n c) xs) (hk : Own W B k.val k.ids) (hB : B ≤ W.heap.size) (hx : a.eval x = .slice (some ⟨W.heap.size, 0, none⟩) 1 1) (hl : n ≤ 2000)
    (h : ∀ g' c' w', Cs w' B (.slice (some ⟨g', 0, none⟩) (n + 1) c') (xs ++ [k]) → (∀ B' u ids, Own W B' u ids → Own w' B' u ids) → Below B W w' → wpList Try.prog ops Q rest (a.put o.dst (.slice (some ⟨g', 0, none⟩) (n + 1) c')) w') :
    wpList Try.prog ops Q (o :: rest) a (W.alloc (.cells #[k.val, .int .i64 sz] 35)) := by
  subst hsz
  obtain ⟨rfl, _, _⟩ := hown.len
  obtain ⟨i0, hi0, hi1, hi2, hi3⟩ := i35
  have bA : Below W.heap.size W (W.alloc (.cells #[k.val, .int .i64 (k.L.length : Int)] 35)) := below_box W _
  have hown2 := hown.grow bA
  refine wpList_append_own _ hgd s x 28 ho B 35 i0 _ 2 32 (by kernel_rfl) hi0 hi3 hi1 hi2 rfl (by decide) _ _ _ hs hown2.row ⟨W.heap.size, 0, none⟩ 1 1 k.cells hx rfl ?_ ?_ ?_ ?_ ?_ ?_
  · intro q u hu
    match q with
    | 0 => simp [Cn.cells] at hu; subst hu; simp [Addr.add, World.cell?_alloc_new]
    | 1 => simp [Cn.cells] at hu; subst hu; simp [Addr.add, World.cell?_alloc_new]
    | q + 2 => simp [Cn.cells] at hu
  · intro u hu; simp [Cn.cells] at hu; rcases hu with rfl | rfl <;> rfl
  · unfold maxLen; omega
  · omega
  · simp; omega
  · intro v' w3 hown' hgrow hh
    have hgB : ∀ b, av = some b → B ≤ b.block := by
      intro b hb
      rcases hown.row.2 with ⟨e1, _⟩ | ⟨g', cp, cur, e1, e2, _⟩
      · rw [hb] at e1; cases e1
      · rw [hb] at e1; simp at e1; rw [e1.1]; exact e2
    have hty : ∀ b, av = some b → ∃ cur, W.heap[b.block]? = some (.cells cur 35 (0, 0)) := by
      intro b hb
      rcases hown.row.2 with ⟨e1, _⟩ | ⟨g', cp, cur, e1, e2, e3, _⟩
      · rw [hb] at e1; cases e1
      · rw [hb] at e1; simp at e1; rw [e1.1]; exact ⟨cur, e3⟩
    have keep : ∀ q, q < W.heap.size → (∀ b, av = some b → q ≠ b.block) → w3.heap[q]? = W.heap[q]? := by
      intro q hq hne
      rw [hgrow.block q (by simp; omega) (by
        cases av with
        | none => intro e; cases e
        | some b => intro e; simp [Value.ownBlock] at e; exact hne b rfl (e ▸ rfl)), bA.block q hq]
    have b3 : Below B W w3 := (bA.mono hB).grown hgrow (by simp; omega) (fun k hk => by
      cases av with
      | none => cases hk
      | some b => simp [Value.ownBlock] at hk; subst hk; exact hgB b rfl)
    obtain ⟨g', c', rfl⟩ : ∃ g' c', v' = .slice (some ⟨g', 0, none⟩) (xs.length + 1) c' := by
      rcases hown'.2 with ⟨e1, e2⟩ | ⟨g', c', cur, e1, _⟩
      · omega
      · exact ⟨g', c', e1⟩
    have mv : ∀ B' u ids, Own W B' u ids → Own w3 B' u ids := fun B' u ids hz => hz.moved fun g h1 h2 ht => keep g h2 fun b hb e => by
      obtain ⟨cur, hc⟩ := hty b hb
      rw [← e] at hc
      have := ht _ _ _ hc
      cases this
    refine h g' c' w3 ⟨?_, ?_⟩ mv b3
    · rw [rowC_append, List.length_append]
      simpa [rowC] using hown'
    · intro y hy
      rcases List.mem_append.1 hy with h1 | h1
      · exact mv _ _ _ (hown.own y h1)
      · simp at h1; subst h1; exact mv _ _ _ hk

end Go.Proofs.Ytpjfhfbjdcgbjab
