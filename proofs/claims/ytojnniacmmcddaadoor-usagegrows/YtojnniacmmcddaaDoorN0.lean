/-
  Plain: trees that are planted; things in memory, and that came in.
-/
import Derived.Test.YtojnniacmmcddaaDoorM0
import Derived.Test.YtojnniacmmcddaaDoorV1
namespace Go.Proofs.YtojnniacmmcddaaDoor
open Go.ChangeShapes Go.WideShapes
open Go.RowKit
open Go.Lib hiding intOf
set_option linter.unusedVariables false
set_option linter.unusedSimpArgs false

/-- a thing that is put -/
structure Tg where
  p : List UInt8
  t : List UInt8
  k : Int
  z : Int
instance : Inhabited Tg := ⟨⟨[], [], 0, 0⟩⟩
def Tg.cs (x : Tg) : List Value := [.string (bs x.p), .string (bs x.t), .int .i64 x.k, .int .i64 x.z]
/-- as things come in -/
def Tg.ok (x : Tg) : Prop := x.p.length ≤ 9223372036854775807 ∧ x.t.length ≤ 9223372036854775807 ∧ Fit x.k ∧ Fit x.z

/-- things at an address -/
def Ts (w : World) (ad : Option Addr) (X : List Tg) : Prop := X = [] ∨ ∃ b o, ad = some ⟨b, o, none⟩ ∧ b < w.heap.size ∧ ∀ (i : Nat) (x : Tg), X[i]? = some x → w.rangeAt b (o + i * 4) x.cs
theorem Ts.below {w w' : World} {ad : Option Addr} {X : List Tg} (h : Ts w ad X) (hb : Below w.heap.size w w') : Ts w' ad X := by
  rcases h with h | ⟨b, o, h1, h2, h3⟩
  · exact .inl h
  · exact .inr ⟨b, o, h1, Nat.lt_of_lt_of_le h2 hb.size, fun i x hx => range_below (h3 i x hx) hb h2⟩

set_option maxRecDepth 100000 in
set_option maxHeartbeats 2000000 in
theorem open_cells {H : Type} {enc : TypeId × Value → H} {W : World} {cs : List Value} {x : DataW H × List MemPlace} {fuel : Nat} (hl : cs.length = 4) (hf : DataW.trod enc Tryd.prog W 0 (fun _ => true) true fuel 59 cs = some x) :
    ∃ y : Tg, cs = y.cs ∧ y.ok := by
  obtain ⟨c0, c1, c2, c3, rfl⟩ := list4 hl
  obtain ⟨xs, n, _, hx, _, hlen, hfs⟩ := DataW.trod_struct Tryd.underlying59 hf
  obtain ⟨y0, y1, y2, y3, rfl⟩ := list4 (show xs.length = 4 from hlen)
  have k3 : Tryd.prog.cellsOf 3 = 1 := by kernel_rfl
  have k9 : Tryd.prog.cellsOf 9 = 1 := by kernel_rfl
  have g0 := hfs 0 _ rfl
  simp only [Value.cells, k9, List.drop_succ_cons, List.drop_zero, List.take_succ_cons, List.take_zero, List.getElem?_cons_zero, List.getElem?_cons_succ] at g0
  obtain ⟨z0, e0, r0, b0⟩ := DataW.trod_string Tryd.underlying9 g0
  obtain rfl : c0 = _ := List.head_eq_of_cons_eq e0
  have g1 := hfs 1 _ rfl
  simp only [Value.cells, k9, List.drop_succ_cons, List.drop_zero, List.take_succ_cons, List.take_zero, List.getElem?_cons_zero, List.getElem?_cons_succ] at g1
  obtain ⟨z1, e1, r1, b1⟩ := DataW.trod_string Tryd.underlying9 g1
  obtain rfl : c1 = _ := List.head_eq_of_cons_eq e1
  have g2 := hfs 2 _ rfl
  simp only [Value.cells, k3, List.drop_succ_cons, List.drop_zero, List.take_succ_cons, List.take_zero, List.getElem?_cons_zero, List.getElem?_cons_succ] at g2
  obtain ⟨z2, e2, r2, b2⟩ := DataW.trod_int Tryd.underlying3 g2
  obtain rfl : c2 = _ := List.head_eq_of_cons_eq e2
  have g3 := hfs 3 _ rfl
  simp only [Value.cells, k3, List.drop_succ_cons, List.drop_zero, List.take_succ_cons, List.take_zero, List.getElem?_cons_zero, List.getElem?_cons_succ] at g3
  obtain ⟨z3, e3, r3, b3⟩ := DataW.trod_int Tryd.underlying3 g3
  obtain rfl : c3 = _ := List.head_eq_of_cons_eq e3
  refine ⟨⟨z0.data.toList, z1.data.toList, z2, z3⟩, ?_, ?_, ?_, lit_i64 b2, lit_i64 b3⟩
  · show _ = [Value.string (bs z0.data.toList), Value.string (bs z1.data.toList), Value.int .i64 z2, Value.int .i64 z3]
    rw [← bs_of, ← bs_of]
  · have := b0; unfold maxLen at this; rw [Lib.size_eq] at this; exact this
  · have := b1; unfold maxLen at this; rw [Lib.size_eq] at this; exact this

set_option maxRecDepth 100000 in
theorem open_thing {H : Type} {enc : TypeId × Value → H} {W : World} {base : Nat} {v : Value} {d : DataW H} {p : List MemPlace} (hv : Value.okWide Tryd.prog W .any base 59 v) (h : DataW.Trod enc Tryd.prog W 0 (fun _ => true) true 59 v d p) :
    ∃ x : Tg, v = .agg x.cs.toArray ∧ x.ok := by
  obtain ⟨cs, rfl, hsz⟩ := okWide_struct Tryd.underlying59 hv
  have hc : Tryd.prog.cellsOf 59 = 4 := by kernel_rfl
  obtain ⟨fuel, hf⟩ := h
  obtain ⟨y, hy, ho⟩ := open_cells (cs := cs.toList) (by rw [Array.length_toList]; exact hsz.trans hc) hf
  exact ⟨y, by rw [← hy], ho⟩

set_option maxRecDepth 100000 in
theorem open_things {H : Type} {enc : TypeId × Value → H} {W : World} {base : Nat} {v : Value} {d : DataW H} {p : List MemPlace} (hv : Value.okWide Tryd.prog W .any base 50 v) (h : DataW.Trod enc Tryd.prog W 0 (fun _ => true) true 50 v d p) :
    ∃ ad n cap X, v = .slice ad n cap ∧ (X.length = n ∧ n ≤ cap ∧ cap ≤ 9223372036854775807 ∧ Ts W ad X ∧ (∀ x ∈ X, Tg.ok x) ∧ (ad = none → cap = 0)) := by
  obtain ⟨ad, n, cap, rfl⟩ := okWide_slice Tryd.underlying50 hv
  refine ⟨ad, n, cap, ?_⟩
  obtain ⟨fuel, hf⟩ := h
  have hc : Tryd.prog.cellsOf 59 = 4 := by kernel_rfl
  rcases Go.Deep.open_slice Tryd.underlying50 hf with ⟨hcs, _⟩ | ⟨a, len, cp, m, n', D, Pl, hcs, hb, hl, hm, hmm, _, hel⟩
  · simp [Value.cells] at hcs
    obtain ⟨rfl, rfl, rfl⟩ := hcs
    exact ⟨[], rfl, rfl, Nat.le_refl _, by omega, .inl rfl, (fun x hx => nomatch hx), fun _ => rfl⟩
  · simp [Value.cells] at hcs
    obtain ⟨rfl, rfl, rfl⟩ := hcs
    simp at hmm
    subst hmm
    unfold maxLen at hm
    have each : ∀ i, i < m → ∃ y : Tg, y.ok ∧ ∀ j v, y.cs[j]? = some v → W.cell? (a.add (i * 4 + j)) = some v := by
      intro i hi
      obtain ⟨cs', h1, h2⟩ := hel i hi
      rw [hc] at h1
      obtain ⟨_, hlen, hcell⟩ := World.cells?_some h1
      obtain ⟨y, rfl, ho⟩ := open_cells hlen h2
      refine ⟨y, ho, fun j v hv => ?_⟩
      have hj : j < 4 := by have := (List.getElem?_eq_some_iff.1 hv).1; exact this
      have := hcell j hj
      rw [hv] at this
      rw [← this]
      congr 1
      by_cases hi0 : i * 4 = 0
      · by_cases hj0 : j = 0
        · simp [Addr.add, hi0, hj0]
        · simp [Addr.add, hi0, hj0]
      · by_cases hj0 : j = 0
        · simp [Addr.add, hi0, hj0]
        · simp [Addr.add, hi0, hj0, Nat.add_assoc]
    obtain ⟨Y, hY⟩ := Go.Deep.choose_lt each
    refine ⟨(List.range n).map Y, rfl, by simp, hl, hm, ?_, ?_, fun h => by cases h⟩
    · by_cases h0 : n = 0
      · subst h0; exact .inl (by simp)
      · obtain ⟨b, off, spot⟩ := a
        have hc0 := (hY 0 (by omega)).2 0 _ rfl
        have hspot : spot = none := by simpa [Addr.add] using World.cell?_spot hc0
        subst hspot
        have hblt : b < W.heap.size := by
          have := World.block_lt_of_cell? _ _ hc0
          simpa [Addr.add] using this
        refine .inr ⟨b, off, rfl, hblt, fun i x hx j v hv => ?_⟩
        rw [List.getElem?_map] at hx
        obtain ⟨k, hk, rfl⟩ := Option.map_eq_some_iff.1 hx
        obtain ⟨hk1, hk2⟩ := List.getElem?_eq_some_iff.1 hk
        simp at hk1 hk2
        subst hk2
        have := (hY i (by omega)).2 j v hv
        rw [Addr.add_mid] at this
        rw [Nat.add_assoc]
        exact this
    · intro x hx
      obtain ⟨i, hi, rfl⟩ := List.mem_map.1 hx
      rw [List.mem_range] at hi
      exact (hY i (by omega)).1

/-- a clean path's text -/
theorem cln_cp {l : List UInt8} (h : err l = 0) : jn (cln l) = [] ∨ Cp (jn (cln l)) := by
  have e : cln l = parts l := by unfold cln; rw [if_pos h]
  by_cases hp : parts l = []
  · left; rw [e, hp]; rfl
  · right; rw [e]; exact ⟨parts l, hp, parts_good l h, rfl⟩

theorem cln_len (l : List UInt8) : (jn (cln l)).length ≤ l.length := by
  unfold cln
  split
  · exact jn_parts_length l
  · exact Nat.zero_le _

theorem err_len {l : List UInt8} (h : err l = 0) : l.length ≤ 4000 := ((snd_zero l).1 ((err_zero l).1 h).1).2.1

def pStep (q : List Rw × Int) (x : Tg) : List Rw × Int :=
  if err x.p ≠ 0 ∨ x.z < 0 ∨ x.z > 1048576 ∨ x.p.length > 300 then q
  else if x.t ≠ [] then
    if err x.t = 0 then ((linkP q.1 q.2 (jn (cln x.p)) (jn (cln x.t))).1, (linkP q.1 q.2 (jn (cln x.p)) (jn (cln x.t))).2.1) else q
  else if x.k = 1 then ((addP q.1 q.2 (jn (cln x.p)) 1 0 x.z false).1, (addP q.1 q.2 (jn (cln x.p)) 1 0 x.z false).2.1)
  else if x.k = 3 ∨ x.k = 4 then ((addP q.1 q.2 (jn (cln x.p)) x.k 0 0 false).1, (addP q.1 q.2 (jn (cln x.p)) x.k 0 0 false).2.1)
  else q

def plantL (X : List Tg) : List Rw × Int := X.foldl pStep ([], 0)

theorem plantL_snoc (X : List Tg) (x : Tg) : plantL (X ++ [x]) = pStep (plantL X) x := by unfold plantL; rw [List.foldl_append]; rfl

theorem plantL_succ (X : List Tg) (i : Nat) (x : Tg) (h : X[i]? = some x) : plantL (X.take (i + 1)) = pStep (plantL (X.take i)) x := by
  obtain ⟨hi, e⟩ := List.getElem?_eq_some_iff.1 h
  rw [List.take_succ_eq_append_getElem hi, plantL_snoc, e]

theorem pStep_sd {q : List Rw × Int} {x : Tg} (h : Sd q.1 q.2) : Sd (pStep q x).1 (pStep q x).2 ∧ (pStep q x).1.length ≤ q.1.length + 301 ∧ (pStep q x).2 ≤ q.2 + 301 := by
  unfold pStep
  by_cases c0 : err x.p ≠ 0 ∨ x.z < 0 ∨ x.z > 1048576 ∨ x.p.length > 300
  · rw [if_pos c0]; exact ⟨h, by omega, by omega⟩
  · rw [if_neg c0]
    have he : err x.p = 0 := Classical.byContradiction fun e => c0 (.inl e)
    have hl : x.p.length ≤ 300 := by omega
    have hz : 0 ≤ x.z ∧ x.z ≤ 1048576 := by omega
    have hcp := cln_cp he
    have hsl := cln_len x.p
    split
    · split
      · have h1 := h.link (s := jn (cln x.p)) (tt := jn (cln x.t)) hcp (by omega)
        have h2 := link_length (L := q.1) (nx := q.2) (s := jn (cln x.p)) (tt := jn (cln x.t))
        exact ⟨h1, Nat.le_trans h2.1 (by omega), Int.le_trans h2.2 (by omega)⟩
      · exact ⟨h, by omega, by omega⟩
    · split
      · have h1 := h.add (s := jn (cln x.p)) (kd := 1) (md := 0) (sz := x.z) (mk := false) hcp (by omega) hz
        have h2 := add_length (L := q.1) (nx := q.2) (s := jn (cln x.p)) (kd := 1) (md := 0) (sz := x.z) (mk := false)
        exact ⟨h1, Nat.le_trans h2.1 (by omega), Int.le_trans h2.2 (by omega)⟩
      · split
        · have h1 := h.add (s := jn (cln x.p)) (kd := x.k) (md := 0) (sz := 0) (mk := false) hcp (by omega) (by omega)
          have h2 := add_length (L := q.1) (nx := q.2) (s := jn (cln x.p)) (kd := x.k) (md := 0) (sz := 0) (mk := false)
          exact ⟨h1, Nat.le_trans h2.1 (by omega), Int.le_trans h2.2 (by omega)⟩
        · exact ⟨h, by omega, by omega⟩

theorem plantL_sd (X : List Tg) : Sd (plantL X).1 (plantL X).2 ∧ (plantL X).1.length ≤ 301 * X.length ∧ (plantL X).2 ≤ 301 * (X.length : Int) := by
  suffices H : ∀ (X : List Tg) (q : List Rw × Int), Sd q.1 q.2 → Sd (X.foldl pStep q).1 (X.foldl pStep q).2 ∧ (X.foldl pStep q).1.length ≤ q.1.length + 301 * X.length ∧ (X.foldl pStep q).2 ≤ q.2 + 301 * (X.length : Int) by
    have := H X ([], 0) Sd.nil
    simpa [plantL] using this
  intro X
  induction X with
  | nil => intro q h; exact ⟨h, by simp, by simp⟩
  | cons x X ih =>
    intro q h
    obtain ⟨h1, h2, h3⟩ := pStep_sd (x := x) h
    obtain ⟨k1, k2, k3⟩ := ih (pStep q x) h1
    rw [List.foldl_cons, List.length_cons]
    exact ⟨k1, by omega, by omega⟩

end Go.Proofs.YtojnniacmmcddaaDoor
