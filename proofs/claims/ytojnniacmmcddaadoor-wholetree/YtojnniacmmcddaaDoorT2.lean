/-
  Contracts: slices.Grow of nothing, slices.Concat of three parts.
-/
import Derived.Test.YtojnniacmmcddaaDoorT1
import Derived.Lib.AppendZeros
import Derived.Laws.AppendOwn
import Derived.Laws.AppendOwnNone
namespace Go.Proofs.YtojnniacmmcddaaDoor
open Go.RowKit
open Go.Lib hiding intOf
set_option linter.unusedVariables false
set_option linter.unusedSimpArgs false

theorem i40 : ∃ i, Tryd.prog.info? 40 = some i ∧ i.size = 13 ∧ i.bytes = 152 ∧ ∃ z, i.zero = some z ∧ z.cells.size = 13 := by
  have a : (Tryd.prog.info? 40).map (fun i => (i.size, i.bytes)) = some (13, 152) := by kernel_rfl
  have b : ((Tryd.prog.info? 40).bind (fun i => i.zero)).map (fun z => z.cells.size) = some 13 := by kernel_rfl
  cases h : Tryd.prog.info? 40 with
  | none => rw [h] at a; simp at a
  | some i =>
    rw [h] at a b
    simp at a b
    cases hz : i.zero with
    | none => rw [hz] at b; simp at b
    | some z => rw [hz] at b; simp at b; exact ⟨i, rfl, a.1, a.2, z, hz, b⟩

/-- rows of one's own -/
def Ow (w : World) (B : Nat) (v : Value) (L : List Rw) : Prop := w.ownsRow B 40 13 v L.length (flat L)

theorem Ow.rs {w : World} {B : Nat} {ad : Option Addr} {n c : Nat} {L : List Rw} (h : Ow w B (.slice ad n c) L) : n = L.length ∧ Rs w ad L := by
  rcases h.2 with ⟨e1, e2⟩ | ⟨g, cap, cur, e1, e2, e3, e4, e5, e6, e7⟩
  · cases e1; exact ⟨e2.symm, .inl (List.length_eq_zero_iff.1 e2)⟩
  · cases e1
    refine ⟨rfl, .inr ⟨g, 0, rfl, (Array.getElem?_eq_some_iff.1 e3).1, fun j v hv => ?_⟩⟩
    rw [Nat.zero_add]
    unfold World.cell?
    simp only [e3]
    rw [← e7, List.getElem?_take] at hv
    split at hv
    · simpa using hv
    · cases hv

set_option maxHeartbeats 1000000 in
theorem grow_w (N : Nat) (h0 : 0 < N) (hN : N ≤ 3000000) (w : World) :
    Calls Tryd.prog 69 #[.slice none 0 0, .int .i64 (N : Int)] w fun e w' => ∃ c, e = .returned (.slice (some ⟨w.heap.size, 0, none⟩) 0 c) ∧ Ow w' w.heap.size (.slice (some ⟨w.heap.size, 0, none⟩) 0 c) [] ∧ Below w.heap.size w w' := by
  obtain ⟨i, hi, hsz, hby, z, hz, hzs⟩ := i40
  have hrun := fun ty => Lib.run_append_nil_zeros (P := Tryd.prog) w 24 3 ty 40 i z .i64 .i64 Tryd.underlying24 Tryd.underlying3 hi hz N h0 (by omega) (by omega) (by rw [hby]; omega)
  have hge := grownCap_ge w N 0 40
  have hle := grownCap_le_maxLen w N 0 40 (by unfold maxLen; omega)
  generalize grownCap w N 0 40 = c at *
  have hsize : (Builtin.zeroCells z.cells N ++ Builtin.zeroCells z.cells (c - N)).size = c * 13 := by
    simp [Builtin.zeroCells, hzs]
    omega
  generalize (Builtin.zeroCells z.cells N ++ Builtin.zeroCells z.cells (c - N)) = Z at *
  have HO : Hid (Ow (w.drew.alloc (.cells Z 40)) w.heap.size (.slice (some ⟨w.heap.size, 0, none⟩) 0 c) []) := ⟨rfl, .inr ⟨w.heap.size, c, Z, rfl, Nat.le_refl _, heap_alloc_new w.drew _, Nat.zero_le _, hle, hsize, by simp [flat]⟩⟩
  have HB : Hid (Below w.heap.size w (w.drew.alloc (.cells Z 40))) := ((Below.refl _ w).drew).alloc (Nat.le_refl _) _
  have HRU : Hid (∀ ty, (Builtin.append_ #[24, 3] ty #[.slice none 0 0, .int .i64 (N : Int)]).run Tryd.prog w = .ok (.slice (some ⟨w.heap.size, 0, none⟩) N c) (w.drew.alloc (.cells Z 40))) := hrun
  have hw1 : wrap64 (N : Int) = (N : Int) := by unfold wrap64; omega
  have hc1 : (0 : Int) ≤ (c : Int) := by omega
  have hp : (0 : Int) < (N : Int) := by omega
  clear hrun hi hsz hby hz hzs hsize
  generalize w.drew.alloc (.cells Z 40) = w1 at *
  go_enter Tryd.func69, Tryd.ntmps69
  go_wp2_with (at_builtin; refine Lib.wpList_append_run _ rfl _ _ 24 3 rfl _ _ rfl rfl _ _ (HRU.out _) ?_)
  go_ret
  exact ⟨c, rfl, HO.out, HB.out⟩

theorem cs_one (r : Rw) : ∀ v ∈ r.cs, v.oneCell' = true := by
  intro v hv
  simp only [Rw.cs, List.mem_cons, List.not_mem_nil, or_false] at hv
  rcases hv with rfl | rfl | rfl | rfl | rfl | rfl | rfl | rfl | rfl | rfl | rfl | rfl | rfl <;> rfl

theorem flat_one (L : List Rw) : ∀ v ∈ flat L, v.oneCell' = true := by
  intro v hv
  obtain ⟨r, _, hr⟩ := List.mem_flatMap.1 hv
  exact cs_one r v hr

/-- append of rows to rows of one's own -/
theorem wpList_rows {W : World} {ops : Array Oper} {rest : List Oper} {o : Oper} {a : Act} {Q : Exit → Act → World → Prop} (hgd : o.guard = none) (s x : Operand)
    (ho : o.op = .call { callee := .builtin .append, args := #[s, x], argTypes := #[24, 24] })
    (B g0 n0 c0 : Nat) (L : List Rw) (hs : a.eval s = .slice (some ⟨g0, 0, none⟩) n0 c0) (hn0 : L.length = n0) (hown : Ow W B (.slice (some ⟨g0, 0, none⟩) n0 c0) L) (hB : B ≤ W.heap.size)
    (ad : Option Addr) (n c : Nat) (M : List Rw) (hx : a.eval x = .slice ad n c) (hn : M.length = n) (hM : Rs W ad M) (hnil : ad = none → c = 0) (hl : n0 + n ≤ 3000000)
    (h : ∀ g' c' w', Ow w' B (.slice (some ⟨g', 0, none⟩) (n0 + n) c') (L ++ M) → Below B W w' → wpList Tryd.prog ops Q rest (a.put o.dst (.slice (some ⟨g', 0, none⟩) (n0 + n) c')) w') : wpList Tryd.prog ops Q (o :: rest) a W := by
  obtain ⟨i0, hi0, hi1, hi2, z, hz, hzs⟩ := i40
  subst hn
  subst hn0
  cases ad with
  | none =>
    have hc := hnil rfl
    subst hc
    obtain rfl : M = [] := by
      rcases hM with h | ⟨b, o, e, _⟩
      · exact h
      · cases e
    refine wpList_append_own_none hgd s x 24 ho B 40 i0 13 Tryd.underlying24 hi0 _ _ _ hs hown hx ?_
    have := h g0 c0 W (by rw [List.append_nil]; exact hown) (Below.refl _ _)
    exact this
  | some ad =>
    have hb : ∀ j u, (flat M)[j]? = some u → W.cell? (ad.add j) = some u := by
      intro j u hu
      rcases hM with h | ⟨b, o, e, _, h3⟩
      · subst h; simp [flat] at hu
      · cases e; rw [Addr.add_mid]; exact h3 j u hu
    refine wpList_append_own _ hgd s x 24 ho B 40 i0 z 13 152 Tryd.underlying24 hi0 hz hi1 hi2 hzs (by decide) _ _ _ hs hown ad M.length c (flat M) hx (flat_length M) hb (flat_one M) ?_ ?_ hB ?_
    · unfold maxLen; omega
    · omega
    · intro v' w3 hown' hgrow hh
      have hgB : B ≤ g0 := by
        rcases hown.2 with ⟨e1, _⟩ | ⟨g', cp, cur, e1, e2, _⟩
        · cases e1
        · simp at e1; omega
      have b3 : Below B W w3 := (Below.refl _ _).grown hgrow hB (fun k hk => by simp [Value.ownBlock] at hk; omega)
      have hne : v' ≠ .slice none 0 0 := fun e => by have := (hh.1 e).1; cases this
      obtain ⟨g', c', rfl⟩ : ∃ g' c', v' = .slice (some ⟨g', 0, none⟩) (L.length + M.length) c' := by
        rcases hown'.2 with ⟨e1, e2⟩ | ⟨g', c', cur, e1, _⟩
        · exact absurd e1 hne
        · exact ⟨g', c', e1⟩
      refine h g' c' w3 ?_ b3
      unfold Ow
      rw [flat_append, List.length_append]
      exact hown'

end Go.Proofs.YtojnniacmmcddaaDoor
