/-
  What stands ahead of an entry, as it came in, by value: opened.
-/
import Derived.Test.YtjnmmkohmfhnlaaDoorOpen
import Derived.Deep.SlicePairs
namespace Go.Proofs.YtjnmmkohmfhnlaaDoor
open Go.ChangeShapes Go.WideShapes Go.RowKit
set_option linter.unusedVariables false
set_option linter.unusedSimpArgs false

theorem weights_all {H : Type} {P : Program} {e : TypeId} : ∀ {l : List (DataW H)} {d : DataW H}, d ∈ l → ∀ n ∈ d.weights P e, n ∈ DataW.weightsAll P e l
  | x :: r, d, h, n, hn => by
    rw [DataW.weightsAll]
    rcases List.mem_cons.1 h with rfl | h
    · exact List.mem_append_left _ hn
    · exact List.mem_append_right _ (weights_all h n hn)

/-- a list of records that came in -/
def LFit (w : World) (v : Value) (K V : Nat → ByteArray) (n : Nat) : Prop := Lst w v K V n ∧ ∀ i, i < n → (V i).size ≤ 140737488351232

set_option maxRecDepth 100000 in
theorem lst_of {H : Type} {enc : TypeId × Value → H} {W : World} {v : Value} {d : DataW H} {p : List MemPlace} {fuel : Nat} (hf : DataW.trod enc Tryd.prog W 0 (fun _ => true) true fuel 24 [v] = some (d, p)) (hs : ∀ n ∈ d.weights Tryd.prog 24, n ≤ reachBytes) : ∃ K V n, LFit W v K V n := by
  have r : reachBytes = 140737488351232 := by decide
  rcases Go.Deep.open_slice_pairs Tryd.underlying24 Tryd.underlying45 (by kernel_rfl) rfl rfl (by kernel_rfl) (by kernel_rfl) hf with ⟨hcs, _⟩ | ⟨a, len, cp, m, nn, V0, V1, D0, D1, P0, P1, hcs, hb, hl, hm, hmm, hx, hcell⟩
  · simp only [List.cons.injEq, and_true] at hcs
    subst hcs
    exact ⟨fun _ => ⟨#[]⟩, fun _ => ⟨#[]⟩, 0, ⟨none, 0, rfl, by omega, .inl rfl⟩, fun i hi => by omega⟩
  · simp only [List.cons.injEq, and_true] at hcs
    subst hcs
    simp only [if_true] at hmm
    subst hmm
    simp only [Prod.mk.injEq] at hx
    obtain ⟨rfl, -⟩ := hx
    rw [DataW.weights, Tryd.underlying24] at hs
    simp only at hs
    have hb45 : Tryd.prog.bytesOf 45 = 32 := by kernel_rfl
    have hlen := hs _ (List.mem_cons_self ..)
    rw [hb45, r] at hlen
    simp only [List.length_map, List.length_range] at hlen
    have each : ∀ i, i < m → ∃ q : ByteArray × ByteArray, V0 i = .string q.1 ∧ V1 i = .string q.2 ∧ (i < len → q.2.size ≤ 140737488351232) := by
      intro i hi
      obtain ⟨_, _, t0, t1⟩ := hcell i hi
      obtain ⟨k, hk, _, _⟩ := DataW.trod_string Tryd.underlying9 t0
      obtain ⟨x, hx, hd, _⟩ := DataW.trod_string Tryd.underlying9 t1
      simp only [List.cons.injEq, and_true] at hk hx
      refine ⟨(k, x), hk, hx, fun hi2 => ?_⟩
      simp only [Prod.mk.injEq] at hd
      have hw : ∀ l : List (DataW H), DataW.weights Tryd.prog 45 (.agg l) = DataW.weightsEach Tryd.prog [9, 9] l := fun l => by
        rw [DataW.weights, Tryd.underlying45]
        rfl
      have h9 := hs x.data.toList.length (List.mem_cons_of_mem _ (List.mem_append_left _ (weights_all (d := .agg [D0 i, D1 i]) (List.mem_map.2 ⟨i, List.mem_range.2 hi2, rfl⟩) _ (by
        rw [hw]
        exact DataW.weights_mem_each (j := 1) (t := 9) rfl rfl _ (by rw [hd.1, DataW.weights]; exact List.mem_singleton.2 rfl)))))
      rw [bytes_len, r] at h9
      exact h9
    obtain ⟨q, hq⟩ := Go.Deep.choose_lt each
    refine ⟨fun i => (q i).1, fun i => (q i).2, len, ⟨_, _, rfl, by omega, ?_⟩, fun i hi => (hq i (by omega)).2.2 hi⟩
    by_cases h0 : len = 0
    · exact .inl h0
    · obtain ⟨b, off, spot⟩ := a
      have hc := (hcell 0 (by omega)).1
      have hspot : spot = none := by simpa [Addr.add] using World.cell?_spot hc
      subst hspot
      refine .inr ⟨b, off, rfl, fun i hi => ?_⟩
      obtain ⟨e0, e1, _, _⟩ := hcell i (by omega)
      obtain ⟨f0, f1, _⟩ := hq i (by omega)
      rw [f0] at e0
      rw [f1] at e1
      refine ⟨?_, ?_⟩
      · by_cases i0 : i = 0
        · subst i0; simpa [Addr.add] using e0
        · have : ¬ i * 2 = 0 := by omega
          simpa [Addr.add, this] using e0
      · simpa [Addr.add, Nat.add_assoc] using e1

structure AhFit (a : Ah) (W : World) : Prop where
  g : LFit W a.gv a.gK a.gV a.gn
  l : LFit W a.lv a.lK a.lV a.ln
  name : a.name.size ≤ 140737488351232
  link : a.link.size ≤ 140737488351232

set_option maxRecDepth 100000 in
theorem open_ah {H : Type} {enc : TypeId × Value → H} {W : World} {base : Nat} {v : Value} {d : DataW H} {p : List MemPlace} (hv : Value.okWide Tryd.prog W .any base 26 v) (h : DataW.Trod enc Tryd.prog W 0 (fun _ => true) true 26 v d p) (hs : ∀ n ∈ d.weights Tryd.prog 26, n ≤ reachBytes) : ∃ a : Ah, v = .agg a.cells ∧ AhFit a W := by
  have r : reachBytes = 140737488351232 := by decide
  obtain ⟨c0, c1, c2, c3, y0, y1, y2, y3, mm, rfl, rfl, -, h0, h1, h2, h3⟩ := Go.Joins.open_agg4 Tryd.underlying26 (by kernel_rfl) (by kernel_rfl) hv h
  have hw : ∀ l : List (DataW H), DataW.weights Tryd.prog 26 (.agg l) = DataW.weightsEach Tryd.prog [24, 24, 9, 9] l := fun l => by
    rw [DataW.weights, Tryd.underlying26]
    rfl
  rw [hw] at hs
  obtain ⟨d0, p0⟩ := y0
  obtain ⟨d1, p1⟩ := y1
  obtain ⟨gK, gV, gn, gF⟩ := lst_of h0 (fun n hn => hs n (DataW.weights_mem_each (j := 0) (t := 24) rfl rfl n hn))
  obtain ⟨lK, lV, ln, lF⟩ := lst_of h1 (fun n hn => hs n (DataW.weights_mem_each (j := 1) (t := 24) rfl rfl n hn))
  obtain ⟨nm, hnm, rfl, _⟩ := DataW.trod_string Tryd.underlying9 h2
  obtain ⟨lk, hlk, rfl, _⟩ := DataW.trod_string Tryd.underlying9 h3
  simp only [List.cons.injEq, and_true] at hnm hlk
  subst hnm hlk
  have s2 := hs nm.data.toList.length (DataW.weights_mem_each (j := 2) (t := 9) rfl rfl _ (by rw [DataW.weights]; exact List.mem_singleton.2 rfl))
  have s3 := hs lk.data.toList.length (DataW.weights_mem_each (j := 3) (t := 9) rfl rfl _ (by rw [DataW.weights]; exact List.mem_singleton.2 rfl))
  rw [bytes_len, r] at s2 s3
  exact ⟨⟨c0, c1, gK, gV, gn, lK, lV, ln, nm, lk⟩, rfl, gF, lF, s2, s3⟩

theorem lastOf_size (K V : Nat → ByteArray) (key : ByteArray) (b : Nat) : ∀ n, (∀ i, i < n → (V i).size ≤ b) → (lastOf K V key n).1.size ≤ b
  | 0, _ => Nat.zero_le _
  | n + 1, h => by
    unfold lastOf
    split
    · exact h n (by omega)
    · exact lastOf_size K V key b n fun i hi => h i (by omega)

theorem AhFit.val {a : Ah} {W : World} (f : AhFit a W) (k : ByteArray) : (a.val k).size ≤ 140737488351232 := by
  unfold Ah.val
  split
  · exact lastOf_size _ _ _ _ _ f.l.2
  · exact lastOf_size _ _ _ _ _ f.g.2

end Go.Proofs.YtjnmmkohmfhnlaaDoor
