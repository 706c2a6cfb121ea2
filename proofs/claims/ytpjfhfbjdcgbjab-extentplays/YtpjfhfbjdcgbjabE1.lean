/-
  ExtentPlays: its state behind so many steps.
-/
import Derived.Test.YtpjfhfbjdcgbjabE0
namespace Go.Proofs.Ytpjfhfbjdcgbjab
open Go.RowKit
set_option linter.unusedVariables false
set_option linter.unusedSimpArgs false

theorem Cs.far {W W' : World} {B : Nat} {v : Value} {xs : List Cn} (h : Cs W B v xs) {gs : Nat} {cur : Array Value} (hg : W.heap[gs]? = some (.cells cur 9 (0, 0))) (hk : ∀ k, k < W.heap.size → k ≠ gs → W'.heap[k]? = W.heap[k]?) : Cs W' B v xs := by
  refine ⟨owns_row_moved h.row fun g e h1 h2 => hk g h2 (fun q => ?_), fun x hx => (h.own x hx).moved fun g h1 h2 ht => hk g h2 (fun q => ?_)⟩
  · subst q
    exact own_apart (B' := 0) h.row hg (by decide) e
  · subst q
    have := ht _ _ _ hg
    cases this

theorem Ws.far {W W' : World} {B : Nat} {v : Value} {xs : List Cn} (h : Ws W B v xs) {gr : Nat} {cur : Array Value} (hg : W.heap[gr]? = some (.cells cur 35 (0, 0))) (hk : ∀ k, k < W.heap.size → k ≠ gr → W'.heap[k]? = W.heap[k]?) : Ws W' B v xs :=
  owns_row_moved h fun g e h1 h2 => hk g h2 (fun q => by
    subst q
    exact own_apart (B' := 0) h hg (by decide) e)

/-- a content is put to the contents; what lies elsewhere is as it was -/
theorem wpList_pushC2 {W : World} {ops : Array Oper} {rest : List Oper} {o : Oper} {a : Act} {Q : Exit → Act → World → Prop} (hgd : o.guard = none) (s x : Operand)
    (ho : o.op = .call { callee := .builtin .append, args := #[s, x], argTypes := #[28, 28] })
    (B n c : Nat) (av : Option Addr) (xs : List Cn) (k : Cn) (sz : Int) (hsz : (k.L.length : Int) = sz) (hs : a.eval s = .slice av n c) (hown : Cs W B (.slice av n c) xs) (hk : Own W B k.val k.ids) (hB : B ≤ W.heap.size) (G : Nat) (hG : W.heap[G]? = some (.cells #[k.val, .int .i64 sz] 35 (0, 0))) (hx : a.eval x = .slice (some ⟨G, 0, none⟩) 1 1) (hl : n ≤ 2000)
    (h : ∀ g' c' w', Cs w' B (.slice (some ⟨g', 0, none⟩) (n + 1) c') (xs ++ [k]) → (∀ q, q < W.heap.size → (Value.slice av n c).ownBlock ≠ some q → w'.heap[q]? = W.heap[q]?) → Below B W w' → wpList Try.prog ops Q rest (a.put o.dst (.slice (some ⟨g', 0, none⟩) (n + 1) c')) w') :
    wpList Try.prog ops Q (o :: rest) a W := by
  subst hsz
  obtain ⟨rfl, _, _⟩ := hown.len
  obtain ⟨i0, hi0, hi1, hi2, hi3⟩ := i35
  refine wpList_append_own _ hgd s x 28 ho B 35 i0 _ 2 32 (by kernel_rfl) hi0 hi3 hi1 hi2 rfl (by decide) _ _ _ hs hown.row ⟨G, 0, none⟩ 1 1 k.cells hx rfl ?_ ?_ ?_ ?_ hB ?_
  · intro q u hu
    match q with
    | 0 => simp [Cn.cells] at hu; subst hu; simp [Addr.add, World.cell?, hG]
    | 1 => simp [Cn.cells] at hu; subst hu; simp [Addr.add, World.cell?, hG]
    | q + 2 => simp [Cn.cells] at hu
  · intro u hu; simp [Cn.cells] at hu; rcases hu with rfl | rfl <;> rfl
  · unfold maxLen; omega
  · omega
  · intro v' w3 hown' hgrow hh
    have keep : ∀ q, q < W.heap.size → (Value.slice av xs.length c).ownBlock ≠ some q → w3.heap[q]? = W.heap[q]? := fun q hq hne => hgrow.block q hq (fun e => hne e.symm)
    have b3 : Below B W w3 := (Below.refl _ _).grown hgrow hB (fun k hk => (hown.row.lt k hk).1)
    obtain ⟨g', c', rfl⟩ : ∃ g' c', v' = .slice (some ⟨g', 0, none⟩) (xs.length + 1) c' := by
      rcases hown'.2 with ⟨e1, e2⟩ | ⟨g', c', cur, e1, _⟩
      · omega
      · exact ⟨g', c', e1⟩
    have mv : ∀ B' u ids, Own W B' u ids → Own w3 B' u ids := fun B' u ids hz => hz.moved fun g h1 h2 ht => keep g h2 fun e => by
      rcases hown.row.2 with ⟨e1, _⟩ | ⟨g2, cp, cur, e1, e2, e3, _⟩
      · rw [e1] at e; simp [Value.ownBlock] at e
      · rw [e1] at e
        simp [Value.ownBlock] at e
        subst e
        have := ht _ _ _ e3
        cases this
    refine h g' c' w3 ⟨?_, ?_⟩ keep b3
    · rw [rowC_append, List.length_append]
      simpa [rowC] using hown'
    · intro y hy
      rcases List.mem_append.1 hy with h1 | h1
      · exact mv _ _ _ (hown.own y h1)
      · simp at h1; subst h1; exact mv _ _ _ hk

structure Es (w wr : World) (p S F B n j : Nat) (v vs : Value) (xs : List Cn) (ss : List Slot) (fr : List Nat) : Prop where
  below : Below w.heap.size w wr
  row : Cs wr B v xs
  str : Ws wr B vs xs
  ar : Ar wr p S F ss fr
  inv : Inv ss fr (xs.map Cn.ct)
  size : ∀ x ∈ xs, x.L.length ≤ 1000 * j
  num : xs.length ≤ j
  len : ss.length = n
  B0 : w.heap.size ≤ B
  Bw : B ≤ wr.heap.size
  hp : w.heap.size ≤ p ∧ p < B
  hS : w.heap.size ≤ S ∧ S < B
  hF : w.heap.size ≤ F ∧ F < B

section
variable {w wr : World} {p S F B n j : Nat} {v vs : Value} {xs : List Cn} {ss : List Slot} {fr : List Nat}

theorem Es.more (h : Es w wr p S F B n j v vs xs ss fr) : Es w wr p S F B n (j + 1) v vs xs ss fr :=
  { h with size := fun x hx => by have := h.size x hx; omega, num := by have := h.num; omega }

theorem Es.grow {W : World} (h : Es w wr p S F B n j v vs xs ss fr) (b : Below wr.heap.size wr W) : Es w W p S F B n j v vs xs ss fr :=
  { h with below := h.below.trans (b.mono h.below.size), row := h.row.grow b, str := h.str.grow b, ar := h.ar.grow b, Bw := Nat.le_trans h.Bw b.size }

theorem Es.kept {W : World} {ss' : List Slot} {fr' : List Nat} (h : Es w wr p S F B n j v vs xs ss fr) (K : Keeps p S F wr W) (A : Ar W p S F ss' fr') (I : Inv ss' fr' (xs.map Cn.ct)) (hl : ss'.length = ss.length) : Es w W p S F B n j v vs xs ss' fr' :=
  { h with below := h.below.trans (K.below h.below.size h.hp.1 h.hS.1 h.hF.1), row := h.row.keeps K h.hp.2 h.hS.2 h.hF.2, str := h.str.keeps K h.hp.2 h.hS.2 h.hF.2, ar := A, inv := I, len := by rw [hl]; exact h.len, Bw := Nat.le_trans h.Bw K.size }

/-- one more content -/
theorem Es.add {W W' : World} {v' vs' : Value} {y : Cn} {ss' : List Slot} {fr' : List Nat} (h : Es w wr p S F B n j v vs xs ss fr) (K : Keeps p S F wr W) (A : Ar W p S F ss' fr') (hc : Cs W' B v' (xs ++ [y])) (hw : Ws W' B vs' (xs ++ [y])) (b : Below B W W') (I : Inv ss' fr' (y.ct :: xs.map Cn.ct)) (hl : ss'.length = ss.length) (hy : y.L.length ≤ 1000 * (j + 1)) :
    Es w W' p S F B n (j + 1) v' vs' (xs ++ [y]) ss' fr' :=
  { below := (h.below.trans (K.below h.below.size h.hp.1 h.hS.1 h.hF.1)).trans (b.mono h.B0)
    row := hc
    str := hw
    ar := A.moved (b.block p h.hp.2) (b.block S h.hS.2) (b.block F h.hF.2)
    inv := by rw [List.map_append]; exact I.perm (List.perm_append_singleton _ _).symm
    size := by
      intro x hx
      rcases List.mem_append.1 hx with hx | hx
      · have := h.size x hx; omega
      · simp at hx; subst hx; exact hy
    num := by have := h.num; simp; omega
    len := by rw [hl]; exact h.len
    B0 := h.B0
    Bw := Nat.le_trans (Nat.le_trans h.Bw K.size) b.size
    hp := h.hp
    hS := h.hS
    hF := h.hF }

/-- the contents with one of them ahead -/
theorem ahead {xs : List Cn} {i : Nat} {x : Cn} (hi : xs[i]? = some x) : (xs.map Cn.ct).Perm (x.ct :: (xs.eraseIdx i).map Cn.ct) := by
  have hk := (List.getElem?_eq_some_iff.1 hi).1
  have he := (List.getElem?_eq_some_iff.1 hi).2
  rw [List.eraseIdx_eq_take_drop_succ]
  have : xs = xs.take i ++ x :: xs.drop (i + 1) := by rw [← he, ← List.drop_eq_getElem_cons hk, List.take_append_drop]
  conv => lhs; rw [this]
  rw [List.map_append, List.map_append, List.map_cons]
  exact List.perm_middle

theorem ahead_set {xs : List Cn} {i : Nat} {x : Cn} (hi : xs[i]? = some x) (y : Cn) : (y.ct :: (xs.eraseIdx i).map Cn.ct).Perm ((xs.set i y).map Cn.ct) := by
  have hk := (List.getElem?_eq_some_iff.1 hi).1
  have h1 : (xs.set i y)[i]? = some y := by simp [hk]
  have := ahead h1
  rw [List.eraseIdx_set_eq] at this
  exact this.symm

/-- one content is another one now -/
theorem Es.set {W : World} {g k c gs ks cs i : Nat} {x y : Cn} {ss' : List Slot} {fr' : List Nat} (h : Es w wr p S F B n j (.slice (some ⟨g, 0, none⟩) k c) (.slice (some ⟨gs, 0, none⟩) ks cs) xs ss fr) (hi : xs[i]? = some x) (K : Keeps p S F wr W) (A : Ar W p S F ss' fr') (hy : Own W B y.val y.ids) (I : Inv ss' fr' (y.ct :: (xs.eraseIdx i).map Cn.ct)) (hl : ss'.length = ss.length) (hs : y.L.length ≤ 1000 * (j + 1)) :
    Es w (((W.setCell ⟨g, i * 2, none⟩ y.val).setCell ⟨g, i * 2 + 1, none⟩ (.int .i64 (y.L.length : Int))).setCell ⟨gs, i, none⟩ (.string (strOf y.L))) p S F B n (j + 1) (.slice (some ⟨g, 0, none⟩) k c) (.slice (some ⟨gs, 0, none⟩) ks cs) (xs.set i y) ss' fr' := by
  have hc := h.row.keeps K h.hp.2 h.hS.2 h.hF.2
  have hw := h.str.keeps K h.hp.2 h.hS.2 h.hF.2
  obtain ⟨_, e1, hgB, hgl, _, _, _⟩ := hc.get hi
  simp at e1
  subst e1
  obtain ⟨_, e2, hgB2, hgl2, _, _, cur2, hcur2⟩ := hw.get hi
  simp at e2
  subst e2
  obtain ⟨cur1, hcur1⟩ : ∃ cur, W.heap[g]? = some (.cells cur 35 (0, 0)) := by
    rcases hc.row.2 with ⟨e, _⟩ | ⟨g', cap, cur, e, _, hg, _⟩
    · cases e
    · simp at e
      rw [e.1]
      exact ⟨cur, hg⟩
  have hne : gs ≠ g := fun e => by
    rw [e, hcur1] at hcur2
    injection hcur2 with q
    injection q with _ q
    cases q
  obtain ⟨c1, c2, c3⟩ := hc.set hi hy
  have hw2 := hw.far hcur1 (fun k hk hn => c2 k hn)
  have hcur3 := (c2 gs hne).trans hcur2
  obtain ⟨w1, w2⟩ := hw2.set (y := y) hi
  have c4 := c1.far hcur3 (fun k _ hn => w2 k hn)
  have b1 := h.below.trans (K.below h.below.size h.hp.1 h.hS.1 h.hF.1)
  have hB0 := h.B0
  have hp := h.hp
  have hS := h.hS
  have hF := h.hF
  exact { below := ((b1.setCell (p := ⟨g, i * 2, none⟩) (by show w.heap.size ≤ g; omega) _).setCell (p := ⟨g, i * 2 + 1, none⟩) (by show w.heap.size ≤ g; omega) _).setCell (p := ⟨gs, i, none⟩) (by show w.heap.size ≤ gs; omega) _
          row := c4
          str := w1
          ar := A.moved ((w2 p (by omega)).trans (c2 p (by omega))) ((w2 S (by omega)).trans (c2 S (by omega))) ((w2 F (by omega)).trans (c2 F (by omega)))
          inv := I.perm (ahead_set hi y)
          size := by
            intro q hq
            rcases List.mem_or_eq_of_mem_set hq with hq | rfl
            · have := h.size q hq; omega
            · exact hs
          num := by have := h.num; rw [List.length_set]; omega
          len := by rw [hl]; exact h.len
          B0 := h.B0
          Bw := by have := h.Bw; have := K.size; simp [World.setCell]; omega
          hp := h.hp
          hS := h.hS
          hF := h.hF }

/-- one content is no more -/
theorem Es.erase {W W1 W2 : World} {g k c gs ks cs i : Nat} {x : Cn} {ss' : List Slot} {fr' : List Nat} (h : Es w wr p S F B n j (.slice (some ⟨g, 0, none⟩) k c) (.slice (some ⟨gs, 0, none⟩) ks cs) xs ss fr) (hi : xs[i]? = some x) (K : Keeps p S F wr W) (A : Ar W p S F ss' fr') (I : Inv ss' fr' ((xs.eraseIdx i).map Cn.ct)) (hl : ss'.length = ss.length)
    (c1 : Cs W1 B (.slice (some ⟨g, 0, none⟩) (k - 1) c) (xs.eraseIdx i)) (k1 : ∀ q, q ≠ g → W1.heap[q]? = W.heap[q]?) (b1 : Below B W W1)
    (w2 : Ws W2 B (.slice (some ⟨gs, 0, none⟩) (ks - 1) cs) (xs.eraseIdx i)) (k2 : ∀ q, q ≠ gs → W2.heap[q]? = W1.heap[q]?) (b2 : Below B W1 W2) (hgs : ∃ cur, W1.heap[gs]? = some (.cells cur 9 (0, 0))) :
    Es w W2 p S F B n (j + 1) (.slice (some ⟨g, 0, none⟩) (k - 1) c) (.slice (some ⟨gs, 0, none⟩) (ks - 1) cs) (xs.eraseIdx i) ss' fr' := by
  obtain ⟨cur, hgs⟩ := hgs
  have b := h.below.trans (K.below h.below.size h.hp.1 h.hS.1 h.hF.1)
  have b12 := b1.trans b2
  exact { below := b.trans (b12.mono h.B0)
          row := c1.far hgs (fun q _ hn => k2 q hn)
          str := w2
          ar := A.moved (b12.block p h.hp.2) (b12.block S h.hS.2) (b12.block F h.hF.2)
          inv := I
          size := fun q hq => by have := h.size q (List.mem_of_mem_eraseIdx hq); omega
          num := by have := h.num; have := List.length_eraseIdx_le xs i; omega
          len := by rw [hl]; exact h.len
          B0 := h.B0
          Bw := Nat.le_trans (Nat.le_trans h.Bw K.size) b12.size
          hp := h.hp
          hS := h.hS
          hF := h.hF }

/-- none of the numbers is too great -/
theorem Es.bound (h : Es w wr p S F B n j v vs xs ss fr) (hj : j ≤ 60) {x : Cn} (hx : x ∈ xs) : x.L.length ≤ 60000 ∧ x.ids.length ≤ 60000 ∧ ∀ s ∈ ss, s.holds + x.ids.length < 1073741824 := by
  have h0 := h.size x hx
  have hli := (h.inv.lies x.ct (List.mem_map.2 ⟨x, hx, rfl⟩)).len
  simp only [Cn.ct] at hli
  unfold need at hli
  refine ⟨by omega, by omega, fun s hs => ?_⟩
  have h1 := h.inv.most s hs
  have h2 := Inv.lens_le (fr := fr) 60000 h.inv.lies (by
    intro c hc
    obtain ⟨y, hy, rfl⟩ := List.mem_map.1 hc
    have := h.size y hy
    simp only [Cn.ct]; omega)
  rw [List.length_map] at h2
  have h3 := h.num
  have : xs.length * (60000 + 1) ≤ 60 * 60001 := Nat.mul_le_mul (by omega) (by omega)
  omega
end

end Go.Proofs.Ytpjfhfbjdcgbjab
