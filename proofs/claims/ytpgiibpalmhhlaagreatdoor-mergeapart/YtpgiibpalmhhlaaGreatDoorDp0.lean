/-
  Plain: trees that are planted, ours and the document's; things in memory, and that came in.
-/
import Derived.Test.YtpgiibpalmhhlaaGreatDoorM0
import Derived.Test.YtpgiibpalmhhlaaGreatDoorV1
import Derived.Test.YtpgiibpalmhhlaaGreatDoorDg
import Derived.Test.YtpgiibpalmhhlaaGreatDoorDb
namespace Go.Proofs.YtpgiibpalmhhlaaGreatDoor
open Go.ChangeShapes Go.WideShapes
open Go.RowKit
open Go.Lib hiding intOf
set_option linter.unusedVariables false
set_option linter.unusedSimpArgs false

/-- a thing that is put -/
structure Tg where
  k : Int
  m : Int
  p : List UInt8
  t : List UInt8
instance : Inhabited Tg := ⟨⟨0, 0, [], []⟩⟩
def Tg.cs (x : Tg) : List Value := [.int .i64 x.k, .int .i64 x.m, .string (bs x.p), .string (bs x.t)]
/-- as things come in -/
def Tg.ok (x : Tg) : Prop := x.p.length ≤ 9223372036854775807 ∧ x.t.length ≤ 9223372036854775807 ∧ Fit x.k ∧ Fit x.m

/-- things at an address -/
def Ts (w : World) (ad : Option Addr) (X : List Tg) : Prop := X = [] ∨ ∃ b o, ad = some ⟨b, o, none⟩ ∧ b < w.heap.size ∧ ∀ (i : Nat) (x : Tg), X[i]? = some x → w.rangeAt b (o + i * 4) x.cs
theorem Ts.below {w w' : World} {ad : Option Addr} {X : List Tg} (h : Ts w ad X) (hb : Below w.heap.size w w') : Ts w' ad X := by
  rcases h with h | ⟨b, o, h1, h2, h3⟩
  · exact .inl h
  · exact .inr ⟨b, o, h1, Nat.lt_of_lt_of_le h2 hb.size, fun i x hx => range_below (h3 i x hx) hb h2⟩

set_option maxRecDepth 100000 in
set_option maxHeartbeats 2000000 in
theorem open_cells {H : Type} {enc : TypeId × Value → H} {W : World} {cs : List Value} {x : DataW H × List MemPlace} {fuel : Nat} (hl : cs.length = 4) (hf : DataW.trod enc Tryz.prog W 0 (fun _ => true) true fuel 63 cs = some x) :
    ∃ y : Tg, cs = y.cs ∧ y.ok := by
  obtain ⟨c0, c1, c2, c3, rfl⟩ := list4 hl
  obtain ⟨xs, n, _, hx, _, hlen, hfs⟩ := DataW.trod_struct Tryz.underlying63 hf
  obtain ⟨y0, y1, y2, y3, rfl⟩ := list4 (show xs.length = 4 from hlen)
  have k3 : Tryz.prog.cellsOf 3 = 1 := by kernel_rfl
  have k9 : Tryz.prog.cellsOf 9 = 1 := by kernel_rfl
  have g0 := hfs 0 _ rfl
  simp only [Value.cells, k3, k9, List.drop_succ_cons, List.drop_zero, List.take_succ_cons, List.take_zero, List.getElem?_cons_zero, List.getElem?_cons_succ] at g0
  obtain ⟨z0, e0, r0, b0⟩ := DataW.trod_int Tryz.underlying3 g0
  obtain rfl : c0 = _ := List.head_eq_of_cons_eq e0
  have g1 := hfs 1 _ rfl
  simp only [Value.cells, k3, k9, List.drop_succ_cons, List.drop_zero, List.take_succ_cons, List.take_zero, List.getElem?_cons_zero, List.getElem?_cons_succ] at g1
  obtain ⟨z1, e1, r1, b1⟩ := DataW.trod_int Tryz.underlying3 g1
  obtain rfl : c1 = _ := List.head_eq_of_cons_eq e1
  have g2 := hfs 2 _ rfl
  simp only [Value.cells, k3, k9, List.drop_succ_cons, List.drop_zero, List.take_succ_cons, List.take_zero, List.getElem?_cons_zero, List.getElem?_cons_succ] at g2
  obtain ⟨z2, e2, r2, b2⟩ := DataW.trod_string Tryz.underlying9 g2
  obtain rfl : c2 = _ := List.head_eq_of_cons_eq e2
  have g3 := hfs 3 _ rfl
  simp only [Value.cells, k3, k9, List.drop_succ_cons, List.drop_zero, List.take_succ_cons, List.take_zero, List.getElem?_cons_zero, List.getElem?_cons_succ] at g3
  obtain ⟨z3, e3, r3, b3⟩ := DataW.trod_string Tryz.underlying9 g3
  obtain rfl : c3 = _ := List.head_eq_of_cons_eq e3
  refine ⟨⟨z0, z1, z2.data.toList, z3.data.toList⟩, ?_, ?_, ?_, lit_i64 b0, lit_i64 b1⟩
  · show _ = [Value.int .i64 z0, Value.int .i64 z1, Value.string (bs z2.data.toList), Value.string (bs z3.data.toList)]
    rw [← bs_of, ← bs_of]
  · have := b2; unfold maxLen at this; rw [Lib.size_eq] at this; exact this
  · have := b3; unfold maxLen at this; rw [Lib.size_eq] at this; exact this

set_option maxRecDepth 100000 in
theorem open_thing {H : Type} {enc : TypeId × Value → H} {W : World} {base : Nat} {v : Value} {d : DataW H} {p : List MemPlace} (hv : Value.okWide Tryz.prog W .any base 63 v) (h : DataW.Trod enc Tryz.prog W 0 (fun _ => true) true 63 v d p) :
    ∃ x : Tg, v = .agg x.cs.toArray ∧ x.ok := by
  obtain ⟨cs, rfl, hsz⟩ := okWide_struct Tryz.underlying63 hv
  have hc : Tryz.prog.cellsOf 63 = 4 := by kernel_rfl
  obtain ⟨fuel, hf⟩ := h
  obtain ⟨y, hy, ho⟩ := open_cells (cs := cs.toList) (by rw [Array.length_toList]; exact hsz.trans hc) hf
  exact ⟨y, by rw [← hy], ho⟩

set_option maxRecDepth 100000 in
theorem open_things {H : Type} {enc : TypeId × Value → H} {W : World} {base : Nat} {v : Value} {d : DataW H} {p : List MemPlace} (hv : Value.okWide Tryz.prog W .any base 22 v) (h : DataW.Trod enc Tryz.prog W 0 (fun _ => true) true 22 v d p) :
    ∃ ad n cap X, v = .slice ad n cap ∧ (X.length = n ∧ n ≤ cap ∧ cap ≤ 9223372036854775807 ∧ Ts W ad X ∧ (∀ x ∈ X, Tg.ok x) ∧ (ad = none → cap = 0)) := by
  obtain ⟨ad, n, cap, rfl⟩ := okWide_slice Tryz.underlying22 hv
  refine ⟨ad, n, cap, ?_⟩
  obtain ⟨fuel, hf⟩ := h
  have hc : Tryz.prog.cellsOf 63 = 4 := by kernel_rfl
  rcases Go.Deep.open_slice Tryz.underlying22 hf with ⟨hcs, _⟩ | ⟨a, len, cp, m, n', D, Pl, hcs, hb, hl, hm, hmm, _, hel⟩
  · simp [Value.cells] at hcs
    obtain ⟨rfl, rfl, rfl⟩ := hcs
    exact ⟨[], rfl, rfl, Nat.le_refl _, by omega, .inl rfl, (fun x hx => nomatch hx), fun _ => rfl⟩
  · simp [Value.cells] at hcs
    obtain ⟨rfl, rfl, rfl⟩ := hcs
    simp at hmm
    subst hmm
    unfold maxLen at hm
    have each : ∀ i, i < m → ∃ y : Tg, y.ok ∧ ∀ j v, y.cs[j]? = some v → W.cell? (a.add (i * 4 + j)) = some v := by
      intro i hi
      obtain ⟨cs', h1, h2⟩ := hel i hi
      rw [hc] at h1
      obtain ⟨_, hlen, hcell⟩ := World.cells?_some h1
      obtain ⟨y, rfl, ho⟩ := open_cells hlen h2
      refine ⟨y, ho, fun j v hv => ?_⟩
      have hj : j < 4 := by have := (List.getElem?_eq_some_iff.1 hv).1; exact this
      have := hcell j hj
      rw [hv] at this
      rw [← this]
      congr 1
      by_cases hi0 : i * 4 = 0
      · by_cases hj0 : j = 0
        · simp [Addr.add, hi0, hj0]
        · simp [Addr.add, hi0, hj0]
      · by_cases hj0 : j = 0
        · simp [Addr.add, hi0, hj0]
        · simp [Addr.add, hi0, hj0, Nat.add_assoc]
    obtain ⟨Y, hY⟩ := Go.Deep.choose_lt each
    refine ⟨(List.range n).map Y, rfl, by simp, hl, hm, ?_, ?_, fun h => by cases h⟩
    · by_cases h0 : n = 0
      · subst h0; exact .inl (by simp)
      · obtain ⟨b, off, spot⟩ := a
        have hc0 := (hY 0 (by omega)).2 0 _ rfl
        have hspot : spot = none := by simpa [Addr.add] using World.cell?_spot hc0
        subst hspot
        have hblt : b < W.heap.size := by
          have := World.block_lt_of_cell? _ _ hc0
          simpa [Addr.add] using this
        refine .inr ⟨b, off, rfl, hblt, fun i x hx j v hv => ?_⟩
        rw [List.getElem?_map] at hx
        obtain ⟨k, hk, rfl⟩ := Option.map_eq_some_iff.1 hx
        obtain ⟨hk1, hk2⟩ := List.getElem?_eq_some_iff.1 hk
        simp at hk1 hk2
        subst hk2
        have := (hY i (by omega)).2 j v hv
        rw [Addr.add_mid] at this
        rw [Nat.add_assoc]
        exact this
    · intro x hx
      obtain ⟨i, hi, rfl⟩ := List.mem_map.1 hx
      rw [List.mem_range] at hi
      exact (hY i (by omega)).1

/-- a clean path's text -/
theorem cln_cp {l : List UInt8} (h : err l = 0) : jn (cln l) = [] ∨ Cp (jn (cln l)) := by
  have e : cln l = parts l := by unfold cln; rw [if_pos h]
  by_cases hp : parts l = []
  · left; rw [e, hp]; rfl
  · right; rw [e]; exact ⟨parts l, hp, parts_good l h, rfl⟩

theorem cln_len (l : List UInt8) : (jn (cln l)).length ≤ l.length := by
  unfold cln
  split
  · exact jn_parts_length l
  · exact Nat.zero_le _

theorem err_len {l : List UInt8} (h : err l = 0) : l.length ≤ 4000 := ((snd_zero l).1 ((err_zero l).1 h).1).2.1

/-- path.Clean, its parts at an address -/
theorem clean_sl (l : List UInt8) (hl : l.length ≤ 9223372036854775807) (w : World) (hm : Ml w) :
    Calls Tryz.prog 23 #[.string (bs l)] w fun e w' => ∃ ad c, e = .returned (.tuple #[.slice ad (cln l).length c, .int .i64 (err l)]) ∧ (cln l).length ≤ c ∧ Sl w' ad (cln l) ∧ Below w.heap.size w w' := by
  refine (clean_w l hl w hm).mono fun e w' ⟨v, he, ho, hb⟩ => ?_
  obtain ⟨ad, c, rfl, hc, hm, hs⟩ := own_sl ho
  exact ⟨ad, c, he, hc, hs, hb⟩

theorem cln_count (l : List UInt8) : (cln l).length ≤ l.length + 1 := by
  by_cases h : err l = 0
  · have e : cln l = parts l := by unfold cln; rw [if_pos h]
    have h1 := jn_len_count (cln l) (fun p hp => by rw [e] at hp; exact (parts_good l h p hp).1)
    have h2 := cln_len l
    omega
  · unfold cln; rw [if_neg h]; exact Nat.zero_le _

/-- our rows and number, the document's things and number -/
structure Pt where
  L : List Rw
  n : Int
  W : List Td
  m : Int
def pStep (more : Int) (q : Pt) (x : Tg) : Pt :=
  if err x.p ≠ 0 ∨ x.p.length > 300 ∨ x.m < 0 ∨ x.m > 1000 then q
  else if x.t ≠ [] then
    if err x.t = 0 then ⟨(linkP q.L q.n (jn (cln x.p)) (jn (cln x.t))).1, (linkP q.L q.n (jn (cln x.p)) (jn (cln x.t))).2.1, (linkD q.W q.m (jn (cln x.p)) (jn (cln x.t))).1, (linkD q.W q.m (jn (cln x.p)) (jn (cln x.t))).2.1⟩ else q
  else if x.k = 1 ∨ x.k = 3 ∨ x.k = 4 then
    ⟨(addP q.L q.n (jn (cln x.p)) x.k (x.m + more) (if x.k = 1 then x.m else 0) false).1, (addP q.L q.n (jn (cln x.p)) x.k (x.m + more) (if x.k = 1 then x.m else 0) false).2.1, (addD q.W q.m (jn (cln x.p)) x.k x.m).1, (addD q.W q.m (jn (cln x.p)) x.k x.m).2.1⟩
  else q
def plantL (more : Int) (X : List Tg) : Pt := X.foldl (pStep more) ⟨[], 0, [], 0⟩
theorem plantL_snoc (more : Int) (X : List Tg) (x : Tg) : plantL more (X ++ [x]) = pStep more (plantL more X) x := by unfold plantL; rw [List.foldl_append]; rfl
theorem plantL_succ (more : Int) (X : List Tg) (i : Nat) (x : Tg) (h : X[i]? = some x) : plantL more (X.take (i + 1)) = pStep more (plantL more (X.take i)) x := by
  obtain ⟨hi, e⟩ := List.getElem?_eq_some_iff.1 h
  rw [List.take_succ_eq_append_getElem hi, plantL_snoc, e]

/-- what holds of a planted tree -/
structure Ok (more : Int) (q : Pt) (i : Nat) : Prop where
  sd : Sd q.L q.n
  co : Co more q.L q.W
  nn : q.m = q.n
  len : q.L.length ≤ 301 * i
  nx : q.n ≤ 301 * (i : Int)
  files : ∀ r ∈ q.L, r.kind = 1 ∨ r.kind = 3 ∨ r.kind = 4
theorem Ok.wlen {more : Int} {q : Pt} {i : Nat} (h : Ok more q i) : q.W.length = q.L.length := h.co.len h.sd.srt

theorem putL_kinds {L : List Rw} (hs : Srt L) (h : ∀ r ∈ L, r.kind = 1 ∨ r.kind = 3 ∨ r.kind = 4) {r : Rw} (hr : r.kind = 1 ∨ r.kind = 3 ∨ r.kind = 4) : ∀ q ∈ putL L r, q.kind = 1 ∨ q.kind = 3 ∨ q.kind = 4 := by
  intro q hq
  rcases (mem_put hs r q).1 hq with rfl | ⟨h1, _⟩
  · exact hr
  · exact h q h1
theorem wpR_kinds {L : List Rw} {nx : Int} {s : List UInt8} (h : ∀ r ∈ L, r.kind = 1 ∨ r.kind = 3 ∨ r.kind = 4) : ∀ q ∈ wpR L nx s, q.kind = 1 ∨ q.kind = 3 ∨ q.kind = 4 := by
  intro q hq
  rcases wpR_mem.1 hq with hq | hq
  · exact h q hq
  · obtain ⟨i, x, _, rfl⟩ := (mkAll_get _ _ _).1 hq
    exact .inr (.inr rfl)
theorem addP_kinds {L : List Rw} {nx : Int} {s : List UInt8} {k md sz : Int} {mk : Bool} (hS : Sd L nx) (hs : s = [] ∨ Cp s) (hl : s.length ≤ 1000) (hk : k = 1 ∨ k = 3 ∨ k = 4) (h : ∀ r ∈ L, r.kind = 1 ∨ r.kind = 3 ∨ r.kind = 4) : ∀ q ∈ (addP L nx s k md sz mk).1, q.kind = 1 ∨ q.kind = 3 ∨ q.kind = 4 := by
  unfold addP
  split
  · exact h
  · next e0 =>
    split
    · split
      · exact h
      · split
        · exact putL_kinds hS.srt h hk
        · exact putL_kinds hS.srt h hk
    · split
      · exact h
      · next hc => exact putL_kinds (hS.wp (hs.resolve_left e0) hl (by simpa using hc)).1.srt (wpR_kinds h) hk
theorem linkP_kinds {L : List Rw} {nx : Int} {s tt : List UInt8} (hS : Sd L nx) (hs : s = [] ∨ Cp s) (hl : s.length ≤ 1000) (h : ∀ r ∈ L, r.kind = 1 ∨ r.kind = 3 ∨ r.kind = 4) : ∀ q ∈ (linkP L nx s tt).1, q.kind = 1 ∨ q.kind = 3 ∨ q.kind = 4 := by
  unfold linkP
  split
  · exact h
  · next e0 =>
    split
    · exact h
    · next hf =>
      split
      · exact h
      · next h1 =>
        split
        · exact h
        · split
          · exact h
          · next hc => exact putL_kinds (hS.wp (hs.resolve_left e0) hl (by simpa using hc)).1.srt (wpR_kinds h) (.inl (Classical.not_not.1 h1))

theorem parD_len : ∀ (us : List (List UInt8)) (W : List Td) (nx : Int), (parD us W nx).1.length ≤ W.length + us.length ∧ nx ≤ (parD us W nx).2.1 ∧ (parD us W nx).2.1 ≤ nx + (us.length : Int)
  | [], W, nx => by simp [parD]
  | u :: us, W, nx => by
    have ih := parD_len us
    rw [parD_cons, List.length_cons]
    split
    · split
      · have := ih W nx; omega
      · refine ⟨?_, ?_, ?_⟩
        · show W.length ≤ _; omega
        · show nx ≤ nx; omega
        · show nx ≤ _; omega
    · have h1 := ih (withD W ⟨u, 4, 0, true, nx⟩) (nx + 1)
      have h2 := withD_len W ⟨u, 4, 0, true, nx⟩
      omega
theorem upR_len (ps : List (List UInt8)) (n : Nat) : (upR ps n).length ≤ ps.length := by unfold upR; rw [List.length_map, List.length_range']; omega
theorem parts_len (s : List UInt8) : (parts s).length ≤ s.length ∧ (jn (parts s)).length ≤ s.length := by
  have h1 := jn_parts_length s
  have h2 := jn_le_split (parts s) (fun p hp => by
    have := (List.mem_filter.1 hp).2
    intro e; subst e
    simp [keep] at this)
  exact ⟨Nat.le_trans h2 h1, h1⟩

theorem pStep_ok {more : Int} {q : Pt} {i : Nat} {x : Tg} (h : Ok more q i) : Ok more (pStep more q x) (i + 1) := by
  have hself : Ok more q (i + 1) := ⟨h.sd, h.co, h.nn, Nat.le_trans h.len (by omega), Int.le_trans h.nx (by omega), h.files⟩
  unfold pStep
  by_cases c0 : err x.p ≠ 0 ∨ x.p.length > 300 ∨ x.m < 0 ∨ x.m > 1000
  · rw [if_pos c0]; exact hself
  · rw [if_neg c0]
    have he : err x.p = 0 := Classical.byContradiction fun e => c0 (.inl e)
    have hl : x.p.length ≤ 300 := by omega
    have hz : 0 ≤ x.m ∧ x.m ≤ 1000 := by omega
    have hcp := cln_cp he
    have hsl := cln_len x.p
    have hl1 := h.len
    have hl2 := h.nx
    split
    · split
      · have h1 := h.sd.link (s := jn (cln x.p)) (tt := jn (cln x.t)) hcp (by omega)
        have h2 := link_length (L := q.L) (nx := q.n) (s := jn (cln x.p)) (tt := jn (cln x.t))
        have h3 := h.co.link (s := jn (cln x.p)) (tt := jn (cln x.t)) h.sd hcp (by omega)
        rw [h.nn]
        exact ⟨h1, h3.2.2, h3.2.1, Nat.le_trans h2.1 (by omega), Int.le_trans h2.2 (by omega), linkP_kinds h.sd hcp (by omega) h.files⟩
      · exact hself
    · split
      · next hk =>
        have h1 := h.sd.add (s := jn (cln x.p)) (kd := x.k) (md := x.m + more) (sz := if x.k = 1 then x.m else 0) (mk := false) hcp (by omega) (by split <;> omega)
        have h2 := add_length (L := q.L) (nx := q.n) (s := jn (cln x.p)) (kd := x.k) (md := x.m + more) (sz := if x.k = 1 then x.m else 0) (mk := false)
        have h3 := h.co.add (s := jn (cln x.p)) (k := x.k) (m := x.m) (sz := if x.k = 1 then x.m else 0) h.sd hcp (by omega)
        rw [h.nn]
        exact ⟨h1, h3.2.2, h3.2.1, Nat.le_trans h2.1 (by omega), Int.le_trans h2.2 (by omega), addP_kinds h.sd hcp (by omega) hk h.files⟩
      · exact hself

theorem plantL_ok (more : Int) (X : List Tg) : Ok more (plantL more X) X.length := by
  suffices H : ∀ (X : List Tg) (q : Pt) (i : Nat), Ok more q i → Ok more (X.foldl (pStep more) q) (i + X.length) by
    have := H X ⟨[], 0, [], 0⟩ 0 ⟨Sd.nil, Co.nil more, rfl, Nat.le_refl _, Int.le_refl _, (fun _ h => nomatch h)⟩
    rw [Nat.zero_add] at this
    exact this
  intro X
  induction X with
  | nil => intro q i h; exact h
  | cons x X ih =>
    intro q i h
    have := ih (pStep more q x) (i + 1) (pStep_ok h)
    rw [List.foldl_cons, List.length_cons, show i + (X.length + 1) = i + 1 + X.length by omega]
    exact this

end Go.Proofs.YtpgiibpalmhhlaaGreatDoor
