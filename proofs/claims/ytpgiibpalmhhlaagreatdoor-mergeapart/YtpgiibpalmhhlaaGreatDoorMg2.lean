/-
  Contract: merge.Gone.
-/
import Derived.Test.YtpgiibpalmhhlaaGreatDoorMg1
import Derived.Test.YtpgiibpalmhhlaaGreatDoorShelfB
import Derived.Sort.OwnSortedInts
import Derived.Laws.AppendOwn
namespace Go.Proofs.YtpgiibpalmhhlaaGreatDoor
open Go.RowKit
open Go.Lib hiding intOf
set_option linter.unusedVariables false
set_option linter.unusedSimpArgs false

theorem i3c : ∃ i, Tryz.prog.info? 3 = some i ∧ i.size = 1 ∧ i.bytes = 8 ∧ ∃ z, i.zero = some z ∧ z.cells.size = 1 := by
  have a : (Tryz.prog.info? 3).map (fun i => (i.size, i.bytes)) = some (1, 8) := by kernel_rfl
  have b : ((Tryz.prog.info? 3).bind (fun i => i.zero)).map (fun z => z.cells.size) = some 1 := by kernel_rfl
  cases h : Tryz.prog.info? 3 with
  | none => rw [h] at a; simp at a
  | some i =>
    rw [h] at a b
    simp at a b
    cases hz : i.zero with
    | none => rw [hz] at b; simp at b
    | some z => rw [hz] at b; simp at b; exact ⟨i, rfl, a.1, a.2, z, hz, b⟩
theorem i39c : ∃ i, Tryz.prog.info? 39 = some i ∧ i.size = 2 ∧ i.bytes = 32 ∧ ∃ z, i.zero = some z ∧ z.cells.size = 2 := by
  have a : (Tryz.prog.info? 39).map (fun i => (i.size, i.bytes)) = some (2, 32) := by kernel_rfl
  have b : ((Tryz.prog.info? 39).bind (fun i => i.zero)).map (fun z => z.cells.size) = some 2 := by kernel_rfl
  cases h : Tryz.prog.info? 39 with
  | none => rw [h] at a; simp at a
  | some i =>
    rw [h] at a b
    simp at a b
    cases hz : i.zero with
    | none => rw [hz] at b; simp at b
    | some z => rw [hz] at b; simp at b; exact ⟨i, rfl, a.1, a.2, z, hz, b⟩

/-- whole numbers of one's own; contents of one's own -/
def Oi3 (w : World) (B g c : Nat) (ks : List Int) : Prop := w.ownsRow B 3 1 (.slice (some ⟨g, 0, none⟩) ks.length c) ks.length (ks.map (Value.int .i64))
def flC (vs : List Int) : List Value := vs.flatMap fun z => [.slice none 0 0, .int .i64 z]
theorem flC_len (vs : List Int) : (flC vs).length = vs.length * 2 := by
  induction vs with
  | nil => rfl
  | cons z vs ih => show (_ :: _ :: flC vs).length = _; rw [List.length_cons, List.length_cons, ih, List.length_cons]; omega
theorem flC_app (a b : List Int) : flC (a ++ b) = flC a ++ flC b := by simp [flC]
theorem flC_get (vs : List Int) (j : Nat) (z : Int) (h : vs[j]? = some z) : (flC vs)[j * 2]? = some (.slice none 0 0) ∧ (flC vs)[j * 2 + 1]? = some (.int .i64 z) := by
  induction vs generalizing j with
  | nil => simp at h
  | cons a vs ih =>
    cases j with
    | zero => simp at h; subst h; exact ⟨rfl, rfl⟩
    | succ j =>
      have := ih j (by simpa using h)
      show (_ :: _ :: flC vs)[(j + 1) * 2]? = _ ∧ (_ :: _ :: flC vs)[(j + 1) * 2 + 1]? = _
      rw [show (j + 1) * 2 = j * 2 + 1 + 1 by omega, List.getElem?_cons_succ, List.getElem?_cons_succ, List.getElem?_cons_succ, List.getElem?_cons_succ]
      exact this
def Oc (w : World) (B g c : Nat) (vs : List Int) : Prop := w.ownsRow B 39 2 (.slice (some ⟨g, 0, none⟩) vs.length c) vs.length (flC vs)

theorem run_int1 {W : World} (B g0 c0 : Nat) (ks : List Int) (k : Int) (hown : Oi3 W B g0 c0 ks) (hB : B ≤ W.heap.size) (hl : ks.length ≤ 1000000) (ty : TypeId) :
    ∃ g' c' w', (Builtin.append_ #[37, 37] ty #[.slice (some ⟨g0, 0, none⟩) ks.length c0, .slice (some ⟨W.heap.size, 0, none⟩) 1 1]).run Tryz.prog (W.alloc (.cells #[.int .i64 k] 3)) = .ok (.slice (some ⟨g', 0, none⟩) (ks.length + 1) c') w' ∧ Oi3 w' B g' c' (ks ++ [k]) ∧ (W.alloc (.cells #[.int .i64 k] 3)).grownBy w' (some g0) := by
  obtain ⟨i0, hi0, hi1, hi2, z, hz, hzs⟩ := i3c
  have hown2 : (W.alloc (.cells #[.int .i64 k] 3)).ownsRow B 3 1 (.slice (some ⟨g0, 0, none⟩) ks.length c0) ks.length (ks.map (Value.int .i64)) := World.ownsRow.alloc hown _
  obtain ⟨v', w', hr, h2, h3, h4⟩ := run_append_own (P := Tryz.prog) (W.alloc (.cells #[.int .i64 k] 3)) B 37 ty 3 i0 z 1 8 Tryz.underlying37 hi0 hz hi1 hi2 hzs (by decide) _ _ _ hown2 ⟨W.heap.size, 0, none⟩ 1 1 [.int .i64 k] rfl (by
    intro q u hu
    rw [Addr.add_mid, Nat.zero_add, World.cell?_alloc_new]
    simpa using hu) (fun v hv => by rw [List.mem_singleton.1 hv]; rfl) (by unfold maxLen; omega) (by omega) (by rw [size_box]; omega)
  have hne : v' ≠ .slice none 0 0 := fun e => by have := (h4.1 e).1; cases this
  obtain ⟨g', c', rfl⟩ : ∃ g' c', v' = .slice (some ⟨g', 0, none⟩) (ks.length + 1) c' := by
    rcases h2.2 with ⟨e1, e2⟩ | ⟨g', c', cur, e1, _⟩
    · exact absurd e1 hne
    · exact ⟨g', c', e1⟩
  refine ⟨g', c', w', hr, ?_, h3⟩
  unfold Oi3
  rw [List.map_append, List.length_append]
  exact h2
theorem run_con1 {W : World} (B g0 c0 : Nat) (vs : List Int) (k : Int) (hown : Oc W B g0 c0 vs) (hB : B ≤ W.heap.size) (hl : vs.length ≤ 1000000) (ty : TypeId) :
    ∃ g' c' w', (Builtin.append_ #[49, 49] ty #[.slice (some ⟨g0, 0, none⟩) vs.length c0, .slice (some ⟨W.heap.size, 0, none⟩) 1 1]).run Tryz.prog (W.alloc (.cells #[.slice none 0 0, .int .i64 k] 39)) = .ok (.slice (some ⟨g', 0, none⟩) (vs.length + 1) c') w' ∧ Oc w' B g' c' (vs ++ [k]) ∧ (W.alloc (.cells #[.slice none 0 0, .int .i64 k] 39)).grownBy w' (some g0) := by
  obtain ⟨i0, hi0, hi1, hi2, z, hz, hzs⟩ := i39c
  have hown2 : (W.alloc (.cells #[.slice none 0 0, .int .i64 k] 39)).ownsRow B 39 2 (.slice (some ⟨g0, 0, none⟩) vs.length c0) vs.length (flC vs) := World.ownsRow.alloc hown _
  obtain ⟨v', w', hr, h2, h3, h4⟩ := run_append_own (P := Tryz.prog) (W.alloc (.cells #[.slice none 0 0, .int .i64 k] 39)) B 49 ty 39 i0 z 2 32 Tryz.underlying49 hi0 hz hi1 hi2 hzs (by decide) _ _ _ hown2 ⟨W.heap.size, 0, none⟩ 1 1 [.slice none 0 0, .int .i64 k] rfl (by
    intro q u hu
    rw [Addr.add_mid, Nat.zero_add, World.cell?_alloc_new]
    simpa using hu) (fun v hv => by simp at hv; rcases hv with rfl | rfl <;> rfl) (by unfold maxLen; omega) (by omega) (by rw [size_box]; omega)
  have hne : v' ≠ .slice none 0 0 := fun e => by have := (h4.1 e).1; cases this
  obtain ⟨g', c', rfl⟩ : ∃ g' c', v' = .slice (some ⟨g', 0, none⟩) (vs.length + 1) c' := by
    rcases h2.2 with ⟨e1, e2⟩ | ⟨g', c', cur, e1, _⟩
    · exact absurd e1 hne
    · exact ⟨g', c', e1⟩
  refine ⟨g', c', w', hr, ?_, h3⟩
  unfold Oc
  rw [flC_app, List.length_append]
  exact h2

theorem own_blk {w : World} {B e sz g n c : Nat} {xs : List Value} (h : w.ownsRow B e sz (.slice (some ⟨g, 0, none⟩) n c) n xs) : B ≤ g ∧ g < w.heap.size ∧ n ≤ c ∧ ∃ cur, w.heap[g]? = some (.cells cur e (0, 0)) ∧ cur.toList.take (n * sz) = xs ∧ cur.size = c * sz ∧ c ≤ maxLen := by
  rcases h.2 with ⟨q1, _⟩ | ⟨g', cp, cur, q1, q2, q3, q4, q5, q6, q7⟩
  · cases q1
  · cases q1; exact ⟨q2, (Array.getElem?_eq_some_iff.1 q3).1, q4, cur, q3, q7, q6, q5⟩
theorem Cm.obj {w : World} {g n : Nat} {K : List (Int × Int)} (h : Cm w g n K) : ∃ es ck, w.heap[g]? = some (.map es ck) := by
  obtain ⟨D, ⟨es, ck, hb, _⟩, _⟩ := h
  exact ⟨es, ck, hb⟩
theorem map_ne {w : World} {gm n : Nat} {K : List (Int × Int)} (h : Cm w gm n K) {g : Nat} {cur : Array Value} {e : TypeId} (hg : w.heap[g]? = some (.cells cur e (0, 0))) : g ≠ gm := by
  obtain ⟨es, ck, hb⟩ := h.obj
  intro q; subst q
  rw [hb] at hg; cases hg

/-- Gone, on its way -/
structure Gn (w W : World) (T1 T2 : Array Value) (gm n : Nat) (K : List (Int × Int)) : Prop where
  one : W.heap[w.heap.size]? = some (.cells T1 26 (0, 0))
  two : W.heap[w.heap.size + 1]? = some (.cells T2 26 (0, 0))
  map : Cm W gm n K
  gm2 : w.heap.size + 2 ≤ gm
  bel : Below w.heap.size w W
  lt : w.heap.size + 2 ≤ W.heap.size
theorem Gn.next {w W W' : World} {T1 T2 : Array Value} {gm n : Nat} {K : List (Int × Int)} (h : Gn w W T1 T2 gm n K) (b : Below W.heap.size W W') : Gn w W' T1 T2 gm n K := by
  have := h.lt
  exact ⟨(b.block _ (by omega)).trans h.one, (b.block _ (by omega)).trans h.two, h.map.below b, h.gm2, h.bel.trans (b.mono (by omega)), Nat.le_trans h.lt b.size⟩
theorem Gn.upd {w W W' : World} {T1 T2 : Array Value} {gm n n' : Nat} {K K' : List (Int × Int)} (h : Gn w W T1 T2 gm n K) (hm : Cm W' gm n' K') (hg : W.grownBy W' (some gm)) : Gn w W' T1 T2 gm n' K' := by
  have := h.lt
  have := h.gm2
  exact ⟨(hg.block _ (by omega) (by simp; omega)).trans h.one, (hg.block _ (by omega) (by simp; omega)).trans h.two, hm, h.gm2, h.bel.grown hg h.bel.size (fun k hk => by injection hk with hk; omega), Nat.le_trans h.lt hg.size⟩
theorem Gn.oth {w W W' : World} {T1 T2 : Array Value} {gm n : Nat} {K : List (Int × Int)} (h : Gn w W T1 T2 gm n K) (g : Nat) (h2 : w.heap.size + 2 ≤ g) (hne : g ≠ gm) (hg : W.grownBy W' (some g)) : Gn w W' T1 T2 gm n K := by
  have := h.lt
  exact ⟨(hg.block _ (by omega) (by simp; omega)).trans h.one, (hg.block _ (by omega) (by simp; omega)).trans h.two, h.map.kept hg (by simp; omega), h.gm2, h.bel.grown hg h.bel.size (fun k hk => by injection hk with hk; omega), Nat.le_trans h.lt hg.size⟩
theorem Gn.non {w W W' : World} {T1 T2 : Array Value} {gm n : Nat} {K : List (Int × Int)} (h : Gn w W T1 T2 gm n K) (hg : W.grownBy W' none) : Gn w W' T1 T2 gm n K := by
  have := h.lt
  exact ⟨(hg.block _ (by omega) (by simp)).trans h.one, (hg.block _ (by omega) (by simp)).trans h.two, h.map.kept hg (by simp), h.gm2, h.bel.grown hg h.bel.size (fun k hk => by cases hk), Nat.le_trans h.lt hg.size⟩

def sStep (K : List (Int × Int)) (r : Rw) : List (Int × Int) := if r.kind = 1 then K.filter fun p => !decide (p.1 = r.id) else K
def goneK (L1 L2 : List Rw) : List (Int × Int) := L2.foldl sStep (contK L1)
theorem goneK_succ (L1 L2 : List Rw) (i : Nat) (r : Rw) (h : L2[i]? = some r) : goneK L1 (L2.take (i + 1)) = sStep (goneK L1 (L2.take i)) r := by
  obtain ⟨hi, e⟩ := List.getElem?_eq_some_iff.1 h
  unfold goneK
  rw [List.take_succ_eq_append_getElem hi, List.foldl_append, e]; rfl
theorem kput_len (K : List (Int × Int)) (k z : Int) : (kput K k z).length ≤ K.length + 1 := by unfold kput; split <;> simp
theorem contK_len (L : List Rw) : (contK L).length ≤ L.length := by
  suffices H : ∀ (L : List Rw) (K : List (Int × Int)), (L.foldl kStep K).length ≤ K.length + L.length by simpa [contK] using H L []
  intro L
  induction L with
  | nil => intro K; simp
  | cons r L ih =>
    intro K
    have h1 := ih (kStep K r)
    have h2 : (kStep K r).length ≤ K.length + 1 := by
      unfold kStep
      split
      · exact kput_len _ _ _
      · omega
    rw [List.foldl_cons, List.length_cons]; omega
theorem goneK_len (L1 L2 : List Rw) : (goneK L1 L2).length ≤ L1.length := by
  suffices H : ∀ (L : List Rw) (K : List (Int × Int)), (L.foldl sStep K).length ≤ K.length from Nat.le_trans (H L2 _) (contK_len L1)
  intro L
  induction L with
  | nil => intro K; exact Nat.le_refl _
  | cons r L ih =>
    intro K
    refine Nat.le_trans (ih _) ?_
    unfold sStep
    split
    · exact List.length_filter_le _ _
    · exact Nat.le_refl _
def valK (K : List (Int × Int)) (k : Int) : Int := ((K.find? fun p => decide (p.1 = k)).map Prod.snd).getD 0
theorem valK_mem {K : List (Int × Int)} {k : Int} (h : k ∈ K.map Prod.fst) : (k, valK K k) ∈ K := by
  unfold valK
  obtain ⟨p, hp, e⟩ := List.mem_map.1 h
  cases hf : K.find? fun p => decide (p.1 = k) with
  | none => exact absurd (decide_eq_true e) (by simpa using List.find?_eq_none.1 hf p hp)
  | some q =>
    have h1 := List.mem_of_find?_eq_some hf
    have h2 : q.1 = k := of_decide_eq_true (List.find?_some (p := fun p : Int × Int => decide (p.1 = k)) hf)
    show (k, q.2) ∈ K
    rw [← h2]; exact h1
theorem valK_map {K : List (Int × Int)} (hn : (K.map Prod.fst).Nodup) : (K.map Prod.fst).map (valK K) = K.map Prod.snd := by
  rw [List.map_map]
  refine List.map_congr_left fun p hp => ?_
  have h1 := valK_mem (K := K) (k := p.1) (List.mem_map.2 ⟨p, hp, rfl⟩)
  have : ∀ (K : List (Int × Int)), (K.map Prod.fst).Nodup → ∀ p ∈ K, ∀ q ∈ K, p.1 = q.1 → p = q := by
    intro K
    induction K with
    | nil => intro _ p hp; cases hp
    | cons a K ih =>
      intro hn p hp q hq e
      rw [List.map_cons] at hn
      obtain ⟨a1, a2⟩ := List.nodup_cons.1 hn
      rcases List.mem_cons.1 hp with h1 | h1
      · rcases List.mem_cons.1 hq with h2 | h2
        · rw [h1, h2]
        · exact absurd (List.mem_map.2 ⟨q, h2, by rw [← h1, e]⟩) a1
      · rcases List.mem_cons.1 hq with h2 | h2
        · exact absurd (List.mem_map.2 ⟨p, h1, by rw [← h2, e]⟩) a1
        · exact ih a2 p h1 q h2 e
  have := this K hn p hp _ h1 rfl
  show valK K p.1 = p.2
  rw [this]

/-- what was collected of a map's keys -/
structure Col (K : List (Int × Int)) (left : Lit → Bool) (ids : List Int) : Prop where
  nd : ids.Nodup
  mem : ∀ k, k ∈ ids ↔ (k ∈ K.map Prod.fst ∧ left (.int .i64 k) = false)
  sub : ∀ k, left (.int .i64 k) = true → k ∈ K.map Prod.fst
theorem Col.step {K : List (Int × Int)} {left : Lit → Bool} {ids : List Int} (h : Col K left ids) (x : Int) (hx : left (.int .i64 x) = true) : Col K (fun z => left z && !z.sameKey (.int .i64 x)) (ids ++ [x]) := by
  have hs : ∀ k : Int, (Lit.int .i64 k).sameKey (.int .i64 x) = decide (k = x) := fun k => by
    by_cases e : k = x
    · subst e; rw [WideAt.sameKey_self (a := .int .i64 k) trivial]; simp
    · rw [Maps.sameKey_ne (lit_ne e)]; simp [e]
  have hxn : x ∉ ids := fun q => by have := ((h.mem x).1 q).2; rw [hx] at this; cases this
  refine ⟨List.nodup_append.2 ⟨h.nd, List.pairwise_singleton _ _, fun a ha b hb => by rw [List.mem_singleton] at hb; subst hb; exact fun e => hxn (e ▸ ha)⟩, fun k => ?_, fun k hk => h.sub k (by simp at hk; exact hk.1)⟩
  rw [List.mem_append, List.mem_singleton, h.mem k, hs k]
  by_cases e : k = x
  · subst e; simp [h.sub k hx]
  · simp [e]

theorem nd_len : ∀ (a b : List Int), a.Nodup → (∀ x ∈ a, x ∈ b) → a.length ≤ b.length
  | [], b, _, _ => Nat.zero_le _
  | x :: a, b, hn, hs => by
    obtain ⟨s, t, rfl⟩ := List.append_of_mem (hs x (List.mem_cons_self ..))
    obtain ⟨h1, h2⟩ := List.nodup_cons.1 hn
    have := nd_len a (s ++ t) h2 (fun y hy => by
      have := hs y (List.mem_cons_of_mem _ hy)
      rw [List.mem_append, List.mem_cons] at this
      rw [List.mem_append]
      rcases this with h | rfl | h
      · exact .inl h
      · exact absurd hy h1
      · exact .inr h)
    rw [List.length_append] at this
    rw [List.length_append, List.length_cons, List.length_cons]
    omega
theorem iter_ne {w : World} {b r n : Nat} {D : DataW Unit} {left : Lit → Bool} {cnt : Nat} (h : w.ranges Tryz.prog 3 RC b r n D left cnt) {g : Nat} {cur : Array Value} {e : TypeId} (hg : w.heap[g]? = some (.cells cur e (0, 0))) : g ≠ r := by
  obtain ⟨es, clock, since, seen, c0, _, _, _, _, hr, _⟩ := h
  intro q; subst q
  rw [hr] at hg; cases hg
theorem own_kept {w w' : World} {B e sz g n c : Nat} {xs : List Value} (h : w.ownsRow B e sz (.slice (some ⟨g, 0, none⟩) n c) n xs) {k : Nat} (hg : w.grownBy w' (some k)) (hne : g ≠ k) : w'.ownsRow B e sz (.slice (some ⟨g, 0, none⟩) n c) n xs := World.ownsRow.kept h hg (by simp [Value.ownBlock]; omega)
theorem own_apart {w : World} {B B' e e' sz sz' g g' n n' c c' : Nat} {xs xs' : List Value} (h : w.ownsRow B e sz (.slice (some ⟨g, 0, none⟩) n c) n xs) (h' : w.ownsRow B' e' sz' (.slice (some ⟨g', 0, none⟩) n' c') n' xs') (hne : e ≠ e') : g ≠ g' := by
  obtain ⟨_, _, _, cur, h1, _⟩ := own_blk h
  obtain ⟨_, _, _, cur', h2, _⟩ := own_blk h'
  intro q; subst q
  rw [h1] at h2; injection h2 with h2; injection h2 with _ h2 _; exact hne h2
theorem Oi3.at {w : World} {B g c : Nat} {ks : List Int} (h : Oi3 w B g c ks) {j : Nat} {k : Int} (hj : ks[j]? = some k) : w.cell? ⟨g, j, none⟩ = some (.int .i64 k) := by
  have hl := (List.getElem?_eq_some_iff.1 hj).1
  have := World.ownsRow.cellAt h j (by omega)
  rw [this, List.getElem?_map, hj]; rfl

/-- the keys, sorted -/
def srt (ids : List Int) : List Int := ids.mergeSort fun x y => decide (x ≤ y)
theorem srt_len (ids : List Int) : (srt ids).length = ids.length := List.length_mergeSort _
theorem srt_perm (ids : List Int) : (srt ids).Perm ids := List.mergeSort_perm _ _
theorem sort_own (B g c : Nat) (ids : List Int) (w : World) (HO : Oi3 w B g c ids) (hl : ids.length ≤ 1000000) :
    Calls Tryz.prog 34 #[.slice (some ⟨g, 0, none⟩) ids.length c] w fun e ws => e = .returned (.tuple #[]) ∧ Oi3 ws B g c (srt ids) ∧ w.grownBy ws (some g) := by
  obtain ⟨hgB, hgl, hgc, cur, hb2, ht2, hsz2, hmx2⟩ := own_blk HO
  have hH := holds_of_blockI hb2 (by rw [Nat.mul_one] at ht2; exact ht2)
  refine (Tryz.slices_Sort_int g 0 c ids w hH hgl (by omega)).mono ?_
  rintro e ws ⟨rfl, n, os, rfl⟩
  refine ⟨rfl, ?_, grownBy_sortedI _⟩
  have := ownsRow_sortedI (ss := ids) (ts := srt ids) (os := os) (n := n) (srt_len ids) hgB hb2 hgc hmx2 hsz2
  unfold Oi3
  rw [srt_len]
  exact this

set_option maxRecDepth 20000 in
set_option maxHeartbeats 8000000 in
theorem gone_w (ad1 ad2 : Option Addr) (c1 c2 : Nat) (n1 n2 : Int) (L1 L2 : List Rw) (w : World) (r1 : Rs w ad1 L1) (r2 : Rs w ad2 L2) (l1 : L1.length ≤ 400000) (l2 : L2.length ≤ 1000000) (h1 : ∀ r ∈ L1, 0 ≤ r.id ∧ r.id ≤ 4000000000000) (h2 : ∀ r ∈ L2, 0 ≤ r.id ∧ r.id ≤ 4000000000000) :
    Calls Tryz.prog 15 #[.agg #[.slice ad1 L1.length c1, .int .i64 n1], .agg #[.slice ad2 L2.length c2, .int .i64 n2]] w fun e w' => ∃ g c vs, e = .returned (.slice (some ⟨g, 0, none⟩) (goneK L1 L2).length c) ∧ Oc w' w.heap.size g c vs ∧ vs.Perm ((goneK L1 L2).map Prod.snd) ∧ Below w.heap.size w w' := by
  obtain ⟨i0, hi0, hi1, hi2, z0, hz0, hzs0⟩ := i3c
  obtain ⟨i9, hi9, hi91, hi92, z9, hz9, hzs9⟩ := i39c
  have H0 := Two.mk0 w #[.slice ad1 L1.length c1, .int .i64 n1] #[.slice ad2 L2.length c2, .int .i64 n2] 26 26
  have R2 : Hid (Rs w ad2 L2) := r2
  have HO2 : Hid (∀ r ∈ L2, 0 ≤ r.id ∧ r.id ≤ 4000000000000) := h2
  have KC : Hid (∀ W, Below w.heap.size w W → Calls Tryz.prog 16 #[.agg #[.slice ad1 L1.length c1, .int .i64 n1]] W fun e w' => ∃ gm n, e = .returned (.map (some gm)) ∧ Cm w' gm n (contK L1) ∧ W.heap.size ≤ gm ∧ n ≤ 1000000 ∧ Below W.heap.size W w') := fun W hb => contents_w ad1 c1 n1 L1 W (r1.below hb) (by omega) h1
  have HGl := goneK_len L1 L2
  clear r1 r2 h1 h2
  generalize hN1 : L1.length = m1 at *
  generalize hN2 : L2.length = m2 at *
  have HN2 : Hid (L2.length = m2) := hN2
  clear hN1 hN2
  go_enter Tryz.func15, Tryz.ntmps15
  go_upto_region 1 with fail
  generalize (w.alloc _).alloc _ = w0 at *
  have x1 := cells_of H0.1
  go_upto_region 2 with (go_at_call 16; refine (KC.out _ H0.2.2.1).mono ?_; rintro e wc ⟨gm, nm, rfl, Cc, Gc, Nc, bc⟩)
  have G0 : Hid (Gn w wc #[.slice ad1 m1 c1, .int .i64 n1] #[.slice ad2 m2 c2, .int .i64 n2] gm nm (goneK L1 (L2.take 0))) := ⟨(bc.block _ (by have := H0.2.2.2; omega)).trans H0.1, (bc.block _ (by have := H0.2.2.2; omega)).trans H0.2.1, Cc, Nat.le_trans H0.2.2.2 Gc, H0.2.2.1.trans (bc.mono (by have := H0.2.2.2; omega)), Nat.le_trans H0.2.2.2 bc.size⟩
  clear x1 H0 Cc Gc bc KC
  have x2 := cells_of G0.out.two
  go_upto_block 0 with fail
  go_cut [] (fun wx => Hid (Gn w wx #[.slice ad1 m1 c1, .int .i64 n1] #[.slice ad2 m2 c2, .int .i64 n2] gm nm (goneK L1 L2)))
  case first =>
    clear x2
    go_wp2_with fail
    go_loopw [18] (fun x18 wr => ∃ i : Nat, x18 = .int .i64 (i : Int) ∧ i ≤ m2 ∧ Hid (Gn w wr #[.slice ad1 m1 c1, .int .i64 n1] #[.slice ad2 m2 c2, .int .i64 n2] gm nm (goneK L1 (L2.take i)))) (fun x18 _ => m2 - (intOf x18).toNat)
    case atStart => exact ⟨0, rfl, Nat.zero_le _, G0⟩
    case round =>
      obtain ⟨i, rfl, hi, HG⟩ := hrel
      clear G0
      by_cases hlt : i < m2
      · obtain ⟨r, hr⟩ : ∃ r, L2[i]? = some r := ⟨_, List.getElem?_eq_getElem (by have := HN2.out; omega)⟩
        have hid := HO2.out r (List.mem_of_getElem? hr)
        have HU : Hid (goneK L1 (L2.take (i + 1)) = sStep (goneK L1 (L2.take i)) r) := goneK_succ L1 L2 i r hr
        obtain ⟨b, o, rfl, hb1, hb2⟩ := (R2.out.below HG.out.bel).at hr
        have x0 : wr.cell? ⟨b, o + i * 13, none⟩ = some (.string (bs r.p)) := hb2 0 _ rfl
        have x1 : wr.cell? ⟨b, o + i * 13 + 1, none⟩ = some (.int .i64 r.id) := hb2 1 _ rfl
        have x2 : wr.cell? ⟨b, o + i * 13 + 2, none⟩ = some (.int .i64 r.kind) := hb2 2 _ rfl
        have x3 : wr.cell? ⟨b, o + i * 13 + 3, none⟩ = some (.int .i64 r.mode) := hb2 3 _ rfl
        have x4 : wr.cell? ⟨b, o + i * 13 + 4, none⟩ = some (.int .i64 0) := hb2 4 _ rfl
        have x5 : wr.cell? ⟨b, o + i * 13 + 5, none⟩ = some (.int .i64 0) := hb2 5 _ rfl
        have x6 : wr.cell? ⟨b, o + i * 13 + 6, none⟩ = some (.int .i64 0) := hb2 6 _ rfl
        have x7 : wr.cell? ⟨b, o + i * 13 + 7, none⟩ = some (.string ⟨#[]⟩) := hb2 7 _ rfl
        have x8 : wr.cell? ⟨b, o + i * 13 + 8, none⟩ = some (.string ⟨#[]⟩) := hb2 8 _ rfl
        have x9 : wr.cell? ⟨b, o + i * 13 + 9, none⟩ = some (.string ⟨#[]⟩) := hb2 9 _ rfl
        have x10 : wr.cell? ⟨b, o + i * 13 + 10, none⟩ = some (.slice none 0 0) := hb2 10 _ rfl
        have x11 : wr.cell? ⟨b, o + i * 13 + 11, none⟩ = some (.int .i64 r.size) := hb2 11 _ rfl
        have x12 : wr.cell? ⟨b, o + i * 13 + 12, none⟩ = some (.bool r.made) := hb2 12 _ rfl
        have i1 : (0 : Int) ≤ (i : Int) := by omega
        have i2 : (i : Int) < (m2 : Int) := by omega
        clear hb2 hr
        go_upto_region 5 with fail
        have G1 : Hid (Gn w (wr.alloc (.cells #[.string (bs r.p), .int .i64 r.id, .int .i64 r.kind, .int .i64 r.mode, .int .i64 0, .int .i64 0, .int .i64 0, .string ⟨#[]⟩, .string ⟨#[]⟩, .string ⟨#[]⟩, .slice none 0 0, .int .i64 r.size, .bool r.made] 43)) _ _ gm nm (goneK L1 (L2.take i))) := HG.out.next (below_box wr _)
        have q1 := heap_alloc_new wr (.cells #[.string (bs r.p), .int .i64 r.id, .int .i64 r.kind, .int .i64 r.mode, .int .i64 0, .int .i64 0, .int .i64 0, .string ⟨#[]⟩, .string ⟨#[]⟩, .string ⟨#[]⟩, .slice none 0 0, .int .i64 r.size, .bool r.made] 43)
        generalize wr.alloc _ = w1 at *
        generalize wr.heap.size = g1 at *
        clear x0 x1 x2 x3 x4 x5 x6 x7 x8 x9 x10 x11 x12 HG
        have y1 := cells_of q1
        by_cases hk : r.kind = 1
        · have HU2 : Hid (goneK L1 (L2.take (i + 1)) = (goneK L1 (L2.take i)).filter fun p => !decide (p.1 = r.id)) := (by show _ = _; rw [HU.out]; unfold sStep; rw [if_pos hk])
          obtain ⟨w2, p1, p2, p3⟩ := G1.out.map.strike r.id (wf64 (by omega)) 0
          have G2 : Hid (Gn w w2 _ _ gm nm (goneK L1 (L2.take (i + 1)))) := (by rw [HU2.out]; exact G1.out.upd p2 p3)
          have hkb : (r.kind == 1) = true := by simpa using hk
          clear p2 p3 hk
          go_wp2_with fail
          go_roundw
          case rel => exact ⟨i + 1, by simp, hlt, G2⟩
          case measure => simp [intOf]; omega
        · have HU2 : Hid (goneK L1 (L2.take (i + 1)) = goneK L1 (L2.take i)) := (by show _ = _; rw [HU.out]; unfold sStep; rw [if_neg hk])
          have G2 : Hid (Gn w w1 _ _ gm nm (goneK L1 (L2.take (i + 1)))) := (by rw [HU2.out]; exact G1.out)
          have hkb : (r.kind == 1) = false := by simpa using hk
          clear hk
          go_wp2_with fail
          go_roundw
          case rel => exact ⟨i + 1, by simp, hlt, G2⟩
          case measure => simp [intOf]; omega
      · obtain rfl : i = m2 := by omega
        have G1 : Hid (Gn w wr #[.slice ad1 m1 c1, .int .i64 n1] #[.slice ad2 i c2, .int .i64 n2] gm nm (goneK L1 L2)) := (by
          have := HG.out
          rwa [List.take_of_length_le (by rw [HN2.out]; exact Nat.le_refl _)] at this)
        go_wp2_with fail
        go_meet
        case rel => exact G1
  case rest =>
    have HG : Hid _ := hcut
    clear hcut x2 G0 R2 HO2 HN2
    generalize hK : goneK L1 L2 = K at *
    have HK : Hid (goneK L1 L2 = K) := hK
    clear hK
    have hKn : Hid ((K.map Prod.fst).Nodup) := (by obtain ⟨D, _, h⟩ := HG.out.map; exact h.nd)
    have hlen := HG.out.map.len
    have hmax : Hid (K.length ≤ maxLen) := (by show _ ≤ _; unfold maxLen; omega)
    have hcapn : Hid (i0.bytes * K.length ≤ 281474976710656) := (by show _ ≤ _; rw [hi2]; omega)
    have hcapn9 : Hid (i9.bytes * K.length ≤ 281474976710656) := (by show _ ≤ _; rw [hi92]; omega)
    have HL := HG.out.lt
    go_upto_region 9 with (at_make; refine wpList_make_own _ rfl _ _ 37 rfl (w.heap.size + 2) 3 i0 z0 1 Tryz.underlying37 hi0 hz0 hi1 _ _ _ K.length rfl rfl rfl hcapn.out hmax.out HL ?_; intro v1 O1 G1)
    have HG1 : Hid (Gn w v1 _ _ gm nm K) := HG.out.non G1
    have O1' : Hid (Oi3 v1 (w.heap.size + 2) _ K.length []) := O1
    clear O1 G1 HG hlen hcapn HL
    obtain ⟨D, hown, hC⟩ := HG1.out.map
    have HC := hid hC
    clear hC
    go_upto_block 2 with (first
      | (at_range; refine wpList_range_own _ rfl _ 51 rfl 3 39 key3 Tryz.underlying51 RC gm nm D rfl hown ?_; intro w0' hrg0 hg0 hs0))
    go_frame
    have HG2 : Hid (Gn w w0' _ _ gm nm K) := HG1.out.non hg0
    have O2' : Hid (Oi3 w0' (w.heap.size + 2) _ K.length []) := World.ownsRow.kept O1'.out hg0 (by simp [Value.ownBlock])
    have h0' : v1.heap.size < w0'.heap.size := by omega
    have hB2 := HG1.out.lt
    have Col0 : Hid (Col K (Maps.has D) []) := ⟨List.nodup_nil, fun k => by rw [HC.out.keys k]; simp, fun k hk => by rw [HC.out.keys k] at hk; exact of_decide_eq_true hk⟩
    clear hg0 hs0 hown O1' HG1
    generalize v1.heap.size = rr at *
    go_cut [8] (fun x8 wx => ∃ (g c n : Nat) (ids : List Int), x8 = .slice (some ⟨g, 0, none⟩) n c ∧ n ≤ 400000 ∧ g < wx.heap.size ∧ Hid (ids.length = n) ∧ Hid (Oi3 wx (w.heap.size + 2) g c ids) ∧ Hid (Gn w wx #[.slice ad1 m1 c1, .int .i64 n1] #[.slice ad2 m2 c2, .int .i64 n2] gm nm K) ∧ Hid (ids.Perm (K.map Prod.fst)) ∧ Hid (∀ k ∈ ids, (Lit.int .i64 k).wf = true))
    case first =>
      go_wp2_with fail
      go_loopw [8] (fun x8 wq => ∃ (left : Lit → Bool) (cnt g c : Nat) (ids : List Int), wq.ranges Tryz.prog 3 RC gm rr nm D left cnt ∧ rr < wq.heap.size ∧ x8 = .slice (some ⟨g, 0, none⟩) ids.length c ∧ Hid (Oi3 wq (w.heap.size + 2) g c ids) ∧ Hid (Gn w wq #[.slice ad1 m1 c1, .int .i64 n1] #[.slice ad2 m2 c2, .int .i64 n2] gm nm K) ∧ Hid (Col K left ids) ∧ Hid (∀ k ∈ ids, (Lit.int .i64 k).wf = true)) (fun _ wq => wq.rangeLeft gm rr)
      case atStart => exact ⟨_, _, _, _, [], hrg0, h0', rfl, O2', HG2, Col0, fun k hk => nomatch hk⟩
      case round =>
        obtain ⟨left, cnt, g, c, ids, hrg, hq, rfl, HO, HQ, HCol, HWf⟩ := hrel
        clear hrg0 HG2 O2' Col0 h0'
        have hidl : ids.length ≤ K.length := by
          have := nd_len ids (K.map Prod.fst) HCol.out.nd (fun x hx => ((HCol.out.mem x).1 hx).1)
          rwa [List.length_map] at this
        obtain ⟨hgB, hgl, hgc, cur, hgh, _⟩ := own_blk HO.out
        have hgne := map_ne HQ.out.map hgh
        have hgr := iter_ne hrg hgh
        go_upto_region 11 with (first
          | (at_next; refine wpList_next_ranges _ rfl _ rfl 3 key3 RC (fun x : Int => Value.int .i64 x) cv (fun key kl hkey => by obtain ⟨x, rfl, _⟩ := Maps.keyOf_int_inv Tryz.underlying3 hkey; exact ⟨x, rfl⟩) (fun v y hv => by obtain ⟨c, e, _⟩ := RC_inv hv; exact ⟨c, e⟩) gm rr nm D _ _ rfl hrg ?_ ?_))
        · intro hc0 hl0
          have hperm : Hid (ids.Perm (K.map Prod.fst)) := (List.perm_ext_iff_of_nodup HCol.out.nd hKn.out).2 fun k => by rw [HCol.out.mem k, hl0]; simp
          have hil : ids.length ≤ K.length := by have := hperm.out.length_eq; rw [List.length_map] at this; omega
          clear hrg hl0 hc0 HCol hgr hgh
          go_wp2_with fail
          go_meet
          exact ⟨g, c, ids.length, ids, rfl, by omega, hgl, rfl, HO, HQ, hperm, HWf⟩
        · intro x c' kl y1 y2 w1 cnt1 hkx hlk hRc hat hrg1 hlt1 hg1 hs1 hen
          obtain ⟨x', ex, rfl, hwx⟩ := Maps.keyOf_int_inv Tryz.underlying3 hkx
          cases ex
          have HQ1 : Hid (Gn w w1 _ _ gm nm K) := ⟨(hg1.block _ (by have := HQ.out.lt; omega) (by simp; omega)).trans HQ.out.one, (hg1.block _ (by have := HQ.out.lt; omega) (by simp; omega)).trans HQ.out.two, ⟨D, hrg1.owns, HC.out⟩, HQ.out.gm2, HQ.out.bel.grown hg1 HQ.out.bel.size (fun k hk => by injection hk with hk; omega), Nat.le_trans HQ.out.lt hg1.size⟩
          have HO1 : Hid (Oi3 w1 (w.heap.size + 2) g c ids) := own_kept HO.out hg1 hgr
          have hq1 : rr < w1.heap.size := by omega
          have HCol1 : Hid (Col K (fun z => left z && !z.sameKey (.int .i64 x)) (ids ++ [x])) := HCol.out.step x hlk
          have HWf1 : Hid (∀ k ∈ ids ++ [x], (Lit.int .i64 k).wf = true) := fun k hk => by
            rcases List.mem_append.1 hk with hk | hk
            · exact HWf.out k hk
            · rw [List.mem_singleton] at hk; subst hk; exact hwx
          have HRO := hid hrg
          have HR1 : Hid (w1.ranges Tryz.prog 3 RC gm rr nm D _ cnt1) := hrg1
          obtain ⟨g6, c6, w6, run6, O6, G6⟩ := run_int1 (w.heap.size + 2) g c ids x HO1.out HQ1.out.lt (by omega) 37
          have kb := below_box w1 (.cells #[.int .i64 x] 3)
          have RUN6 := hid run6
          have HO6 : Hid (Oi3 w6 (w.heap.size + 2) g6 c6 (ids ++ [x])) := O6
          have HR6 : Hid (w6.ranges Tryz.prog 3 RC gm rr nm D _ cnt1) := (HR1.out.kept (row := none) (grown_below kb) (by simp) (by simp)).kept G6 (by simp; omega) (by simp; omega)
          have HQ6 : Hid (Gn w w6 _ _ gm nm K) := (HQ1.out.next kb).oth g hgB hgne G6
          have hq6 : rr < w6.heap.size := Nat.lt_of_lt_of_le hq1 (Nat.le_trans kb.size G6.size)
          have hln : Hid ((ids ++ [x]).length = ids.length + 1) := (by show _ = _; simp)
          clear hkx hlk hRc hat hg1 hs1 HQ hrg hrg1 HO HQ1 HO1 HR1 kb G6 O6 run6 HCol HWf hgh
          go_wp2_with (at_builtin; refine Lib.wpList_append_run _ rfl _ _ 37 37 rfl _ _ rfl rfl _ _ RUN6.out ?_)
          go_roundw
          case rel => exact ⟨_, _, g6, c6, ids ++ [x], HR6.out, hq6, by rw [hln.out], HO6, HQ6, HCol1, HWf1⟩
          case measure => rw [HR6.out.left_eq, HRO.out.left_eq]; omega
    case rest =>
      obtain ⟨g, c, n, ids, rfl, hn, hgl, HN, HO, HQ, HP, HWf⟩ := hcut
      clear hrg0 HG2 O2' Col0 h0' HC
      obtain ⟨hgB, _, hgc, cur, hgh, _⟩ := own_blk HO.out
      have hgne := map_ne HQ.out.map hgh
      have KS : Hid (∀ W, Oi3 W (w.heap.size + 2) g c ids → Calls Tryz.prog 34 #[.slice (some ⟨g, 0, none⟩) n c] W fun e ws => e = .returned (.tuple #[]) ∧ Oi3 ws (w.heap.size + 2) g c (srt ids) ∧ W.grownBy ws (some g)) := fun W h => by
        have := sort_own (w.heap.size + 2) g c ids W h (by have := HN.out; omega)
        rwa [HN.out] at this
      have HSL : Hid ((srt ids).length = n) := (srt_len ids).trans HN.out
      have HSP : Hid ((srt ids).Perm (K.map Prod.fst)) := (srt_perm ids).trans HP.out
      have HSW : Hid (∀ k ∈ srt ids, (Lit.int .i64 k).wf = true) := fun k hk => HWf.out k ((srt_perm ids).mem_iff.1 hk)
      clear hgh HP HWf
      go_upto_region 14 with (go_at_call 34; refine (KS.out _ HO.out).mono ?_; rintro e ws ⟨rfl, OS', GS⟩)
      have OS : Hid (Oi3 ws (w.heap.size + 2) g c (srt ids)) := OS'
      have HQS : Hid (Gn w ws _ _ gm nm K) := HQ.out.oth g hgB hgne GS
      have hgl2 : g < ws.heap.size := (own_blk OS').2.1
      clear GS OS' HQ KS HO HN
      generalize srt ids = ts at *
      have hcn : Hid (i9.bytes * n ≤ 281474976710656) := (by show _ ≤ _; rw [hi92]; omega)
      have hmx : Hid (n ≤ maxLen) := (by show _ ≤ _; unfold maxLen; omega)
      have HL := HQS.out.lt
      go_upto_region 15 with (at_make; refine wpList_make_own _ rfl _ _ 49 rfl (w.heap.size + 2) 39 i9 z9 2 Tryz.underlying49 hi9 hz9 hi91 _ _ _ n rfl rfl rfl hcn.out hmx.out HL ?_; intro v2 O2 G2)
      have HQ2 : Hid (Gn w v2 _ _ gm nm K) := HQS.out.non G2
      have OS2 : Hid (Oi3 v2 (w.heap.size + 2) g c ts) := World.ownsRow.kept OS.out G2 (by simp [Value.ownBlock])
      have OC0 : Hid (Oc v2 (w.heap.size + 2) _ n ((ts.take 0).map (valK K))) := O2
      have hgl3 : g < v2.heap.size := (own_blk OS2.out).2.1
      clear O2 G2 HQS OS hgl2 HL hcn hmx hcapn9
      generalize ws.heap.size = g9 at *
      go_wp2_with fail
      go_loopw [10, 50] (fun x10 x50 wq => ∃ (j h9 c9 : Nat), x10 = .slice (some ⟨h9, 0, none⟩) j c9 ∧ x50 = .int .i64 (j : Int) ∧ j ≤ n ∧ Hid (Oc wq (w.heap.size + 2) h9 c9 ((ts.take j).map (valK K))) ∧ Hid (Oi3 wq (w.heap.size + 2) g c ts) ∧ Hid (Gn w wq #[.slice ad1 m1 c1, .int .i64 n1] #[.slice ad2 m2 c2, .int .i64 n2] gm nm K)) (fun _ x50 _ => n - (intOf x50).toNat)
      case atStart => exact ⟨0, _, _, rfl, rfl, Nat.zero_le _, OC0, OS2, HQ2⟩
      case round =>
        obtain ⟨j, h9, c9, rfl, rfl, hj, OC, OI, HR⟩ := hrel
        clear OC0 OS2 HQ2 hgl3
        have hgl4 : g < wr.heap.size := (own_blk OI.out).2.1
        by_cases hlt : j < n
        · obtain ⟨k, hk⟩ : ∃ k, ts[j]? = some k := ⟨_, List.getElem?_eq_getElem (by have := HSL.out; omega)⟩
          have hkm := List.mem_of_getElem? hk
          have hK1 := valK_mem (HSP.out.mem_iff.1 hkm)
          have hlk := HR.out.map.look k (valK K k) (HSW.out k hkm) hK1
          have xk := OI.out.at hk
          obtain ⟨h9B, h9l, _, cur9, hb9, _⟩ := own_blk OC.out
          have hne9 := map_ne HR.out.map hb9
          have hgh9 : g ≠ h9 := own_apart OI.out OC.out (by decide)
          have hvl : ((ts.take j).map (valK K)).length = j := by rw [List.length_map, List.length_take]; have := HSL.out; omega
          obtain ⟨g6, c6, w6, run6, O6, G6⟩ := run_con1 (w.heap.size + 2) h9 c9 ((ts.take j).map (valK K)) (valK K k) OC.out HR.out.lt (by rw [hvl]; omega) 49
          rw [hvl] at run6
          have RUN6 := hid run6
          have kb := below_box wr (.cells #[.slice none 0 0, .int .i64 (valK K k)] 39)
          have HO6 : Hid (Oc w6 (w.heap.size + 2) g6 c6 ((ts.take (j + 1)).map (valK K))) := (by
            have e : ts.take (j + 1) = ts.take j ++ [k] := by rw [List.take_add_one, hk]; rfl
            rw [e, List.map_append]; exact O6)
          have HI6 : Hid (Oi3 w6 (w.heap.size + 2) g c ts) := own_kept (World.ownsRow.alloc OI.out _) G6 hgh9
          have HR6 : Hid (Gn w w6 _ _ gm nm K) := (HR.out.next kb).oth h9 h9B hne9 G6
          have i1 : (0 : Int) ≤ (j : Int) := by omega
          have i2 : (j : Int) < (n : Int) := by omega
          unfold cv at hlk
          clear run6 O6 G6 kb hb9 hkm hK1 hk OC OI HR hvl
          generalize valK K k = z at *
          go_wp2_with (first
            | (at_builtin; refine Lib.wpList_append_run _ rfl _ _ 49 49 rfl _ _ rfl rfl _ _ RUN6.out ?_))
          go_roundw
          case rel => exact ⟨j + 1, g6, c6, rfl, by simp, hlt, HO6, HI6, HR6⟩
          case measure => simp [intOf]; omega
        · obtain rfl : j = n := by omega
          have OF : Hid (Oc wr (w.heap.size + 2) h9 c9 (ts.map (valK K))) := (by
            have := OC.out
            rwa [List.take_of_length_le (by rw [HSL.out]; exact Nat.le_refl _)] at this)
          clear OC
          go_wp2_with fail
          go_ret
          have hvl : (ts.map (valK K)).length = j := by rw [List.length_map]; exact HSL.out
          have hkl : K.length = j := by rw [← HSL.out, HSP.out.length_eq, List.length_map]
          refine ⟨h9, c9, ts.map (valK K), ?_, ?_, ?_, HR.out.bel⟩
          · rw [HK.out, hkl]; rfl
          · obtain ⟨q1, q2⟩ := OF.out
            refine ⟨q1, ?_⟩
            rcases q2 with q2 | ⟨g', cp, cur, q2, q3, q4⟩
            · exact .inl q2
            · exact .inr ⟨g', cp, cur, q2, by omega, q4⟩
          · rw [HK.out, ← valK_map hKn.out]
            exact HSP.out.map _


end Go.Proofs.YtpgiibpalmhhlaaGreatDoor
