/-
  Texts in one: Ls, Lt.
-/
import Derived.Test.YtojnniacmmcddaaDoorLq
namespace Go.Proofs.YtojnniacmmcddaaDoor
open Go.RowKit
open Go.Lib hiding intOf
set_option linter.unusedVariables false
set_option linter.unusedSimpArgs false

theorem setCells_same {w : World} {g : Nat} {cur : Array Value} {t : TypeId} (h : w.heap[g]? = some (.cells cur t (0, 0))) : ∀ (vs : List Value) (o : Nat), (∀ j v, vs[j]? = some v → cur[o + j]? = some v) → w.setCells g o vs = w
  | [], o, _ => rfl
  | v :: vs, o, hv => by
    show (w.setCell ⟨g, o, none⟩ v).setCells g (o + 1) vs = w
    rw [setCell_same (v := v) (i := o) h (hv 0 v rfl)]
    exact setCells_same h vs (o + 1) fun j u hu => by
      have := hv (j + 1) u (by simpa using hu)
      rwa [Nat.add_assoc, Nat.add_comm 1 j]

theorem Ow.row {w : World} {B : Nat} {v : Value} {L : List Rw} (h : Ow w B v L) {i : Nat} {r : Rw} (hi : L[i]? = some r) :
    ∃ g c, v = .slice (some ⟨g, 0, none⟩) L.length c ∧ B ≤ g ∧ g < w.heap.size ∧ w.rangeAt g (i * 13) r.cs ∧ w.there g (i * 13) r.cs.toArray.size ∧ (∀ W, Below w.heap.size w W → W.setCells g (i * 13) r.cs.toArray.toList = W) := by
  rcases h.2 with ⟨e1, e2⟩ | ⟨g, c, cur, e1, e2, e3, e4, e5, e6, e7⟩
  · rw [List.length_eq_zero_iff.1 e2] at hi; simp at hi
  · have hcur : ∀ j v, r.cs[j]? = some v → cur[i * 13 + j]? = some v := fun j v hv => by
      have hf := flat_get L i j r v hi hv
      rw [← e7, List.getElem?_take] at hf
      split at hf
      · simpa using hf
      · cases hf
    refine ⟨g, c, e1, e2, (Array.getElem?_eq_some_iff.1 e3).1, fun j v hv => ?_, fun j hj => ?_, fun W hb => ?_⟩
    · rw [cells_of e3]; exact hcur j v hv
    · have hj' : j < r.cs.length := by simpa using hj
      refine ⟨?_, froz_of e3 _⟩
      rw [cells_of e3, hcur j _ (List.getElem?_eq_getElem hj')]
      rfl
    · exact setCells_same ((hb.block g (Array.getElem?_eq_some_iff.1 e3).1).trans e3) _ _ (fun j v hv => hcur j v (by simpa using hv))

set_option maxRecDepth 20000 in
set_option maxHeartbeats 4000000 in
theorem ownAll_w (v : Value) (B : Nat) (L : List Rw) (w : World) (hO : Ow w B v L) (hl : L.length ≤ 1000000) (hB : B ≤ w.heap.size) :
    Calls Tryd.prog 33 #[v] w fun e w' => e = .returned v ∧ Below w.heap.size w w' := by
  have HO : Hid (Ow w B v L) := hO
  obtain ⟨ad, cap, rfl⟩ : ∃ ad c, v = .slice ad L.length c := by
    rcases hO.2 with ⟨e1, e2⟩ | ⟨g, c, cur, e1, _⟩
    · exact ⟨none, 0, by rw [e1, ← e2]⟩
    · exact ⟨some ⟨g, 0, none⟩, c, e1⟩
  clear hO
  generalize hn : L.length = n at *
  have HN : Hid (L.length = n) := hn
  clear hn
  go_enter Tryd.func33, Tryd.ntmps33
  go_wp2_with fail
  go_loopw [7] (fun x7 wr => ∃ i : Nat, x7 = .int .i64 (i : Int) ∧ i ≤ n ∧ Hid (Below w.heap.size w wr)) (fun x7 _ => n - (intOf x7).toNat)
  case atStart => exact ⟨0, rfl, Nat.zero_le _, Below.refl _ _⟩
  case round =>
    obtain ⟨i, rfl, hi, Bw⟩ := hrel
    by_cases hlt : i < n
    · obtain ⟨r, hr⟩ : ∃ r, L[i]? = some r := ⟨_, List.getElem?_eq_getElem (by have := HN.out; omega)⟩
      obtain ⟨g, c, hv, hg1, hg2, hra, hth, hst⟩ := HO.out.row hr
      simp at hv
      obtain ⟨rfl, -, rfl⟩ := hv
      have HB : Hid (wr.rangeAt g (i * 13) [.string (bs r.p), .int .i64 r.id, .int .i64 r.kind, .int .i64 r.mode, .int .i64 0, .int .i64 0, .int .i64 0, .string ⟨#[]⟩, .string ⟨#[]⟩, .string ⟨#[]⟩, .slice none 0 0, .int .i64 r.size, .bool r.made]) := range_below (B := w.heap.size) hra Bw.out hg2
      have hsi : Hid ((Tryd.prog.info? 40).map (·.size) = some ([.string (bs r.p), .int .i64 r.id, .int .i64 r.kind, .int .i64 r.mode, .int .i64 0, .int .i64 0, .int .i64 0, .string ⟨#[]⟩, .string ⟨#[]⟩, .string ⟨#[]⟩, .slice none 0 0, .int .i64 r.size, .bool r.made] : List Value).length) := (by show _ = _; kernel_rfl)
      have hsj : Hid ((Tryd.prog.info? 40).map (·.size) = some (#[.string (bs r.p), .int .i64 r.id, .int .i64 r.kind, .int .i64 r.mode, .int .i64 0, .int .i64 0, .int .i64 0, .string ⟨#[]⟩, .string ⟨#[]⟩, .string ⟨#[]⟩, .slice none 0 0, .int .i64 r.size, .bool r.made] : Array Value).size) := (by show _ = _; kernel_rfl)
      have sk : Hid ((#[.string (bs r.p), .int .i64 r.id, .int .i64 r.kind, .int .i64 r.mode, .int .i64 0, .int .i64 0, .int .i64 0, .string ⟨#[]⟩, .string ⟨#[]⟩, .string ⟨#[]⟩, .slice none 0 0, .int .i64 r.size, .bool r.made] : Array Value).all (·.oneCell') = true) := all_one (cs_one r)
      have i1 : (0 : Int) ≤ (i : Int) := by omega
      have i2 : (i : Int) < (n : Int) := by omega
      have KO : Hid (∀ W, Calls Tryd.prog 39 #[.agg #[.string (bs r.p), .int .i64 r.id, .int .i64 r.kind, .int .i64 r.mode, .int .i64 0, .int .i64 0, .int .i64 0, .string ⟨#[]⟩, .string ⟨#[]⟩, .string ⟨#[]⟩, .slice none 0 0, .int .i64 r.size, .bool r.made]] W fun e w' => e = .returned (.agg #[.string (bs r.p), .int .i64 r.id, .int .i64 r.kind, .int .i64 r.mode, .int .i64 0, .int .i64 0, .int .i64 0, .string ⟨#[]⟩, .string ⟨#[]⟩, .string ⟨#[]⟩, .slice none 0 0, .int .i64 r.size, .bool r.made]) ∧ Below W.heap.size W w') := fun W => own_w r W
      have HT : Hid (∀ W, Below w.heap.size w W → W.there g (i * 13) (#[.string (bs r.p), .int .i64 r.id, .int .i64 r.kind, .int .i64 r.mode, .int .i64 0, .int .i64 0, .int .i64 0, .string ⟨#[]⟩, .string ⟨#[]⟩, .string ⟨#[]⟩, .slice none 0 0, .int .i64 r.size, .bool r.made] : Array Value).size) := fun W hb j hj => (by
        have h := hth j hj
        refine ⟨?_, ?_⟩
        · rw [hb.cell (p := ⟨g, i * 13 + j, none⟩) hg2]; exact h.1
        · have e : W.frozen? ⟨g, i * 13 + j, none⟩ = w.frozen? ⟨g, i * 13 + j, none⟩ := by
            unfold World.frozen?
            rw [hb.block g hg2]
          rw [e]; exact h.2)
      have HST : Hid (∀ W, Below w.heap.size w W → W.setCells g (i * 13) (#[.string (bs r.p), .int .i64 r.id, .int .i64 r.kind, .int .i64 r.mode, .int .i64 0, .int .i64 0, .int .i64 0, .string ⟨#[]⟩, .string ⟨#[]⟩, .string ⟨#[]⟩, .slice none 0 0, .int .i64 r.size, .bool r.made] : Array Value).toList = W) := hst
      clear hra hth hst hr
      go_upto_region 4 with (refine wpList_load_mid rfl 40 _ rfl g (i * 13) rfl [.string (bs r.p), .int .i64 r.id, .int .i64 r.kind, .int .i64 r.mode, .int .i64 0, .int .i64 0, .int .i64 0, .string ⟨#[]⟩, .string ⟨#[]⟩, .string ⟨#[]⟩, .slice none 0 0, .int .i64 r.size, .bool r.made] _ HB.out Tryd.underlying40 rfl hsi.out ?_)
      have hk1 := below_box wr (.cells #[.string (bs r.p), .int .i64 r.id, .int .i64 r.kind, .int .i64 r.mode, .int .i64 0, .int .i64 0, .int .i64 0, .string ⟨#[]⟩, .string ⟨#[]⟩, .string ⟨#[]⟩, .slice none 0 0, .int .i64 r.size, .bool r.made] 40)
      have hq1 := heap_alloc_new wr (.cells #[.string (bs r.p), .int .i64 r.id, .int .i64 r.kind, .int .i64 r.mode, .int .i64 0, .int .i64 0, .int .i64 0, .string ⟨#[]⟩, .string ⟨#[]⟩, .string ⟨#[]⟩, .slice none 0 0, .int .i64 r.size, .bool r.made] 40)
      generalize wr.alloc _ = w1 at *
      have B1 : Hid (Below w.heap.size w w1) := Bw.out.trans (hk1.mono Bw.out.size)
      have m1 := cells_of hq1
      clear hk1 HB hsi hq1 Bw
      go_wp2_with (first
        | (go_at_call 39; refine (KO.out _).mono ?_; rintro e w2 ⟨rfl, k2⟩; have B2 : Hid (Below w.heap.size w w2) := B1.out.trans (k2.mono B1.out.size))
        | (refine wpList_store_mid rfl 40 _ _ rfl g (i * 13) #[.string (bs r.p), .int .i64 r.id, .int .i64 r.kind, .int .i64 r.mode, .int .i64 0, .int .i64 0, .int .i64 0, .string ⟨#[]⟩, .string ⟨#[]⟩, .string ⟨#[]⟩, .slice none 0 0, .int .i64 r.size, .bool r.made] rfl rfl (HT.out _ B2.out) hsj.out sk.out ?_; rw [HST.out _ B2.out]))
      go_roundw
      case rel => exact ⟨i + 1, by simp, hlt, B2.out⟩
      case measure => simp [intOf]; omega
    · obtain rfl : i = n := by omega
      go_wp2_with fail
      go_ret
      exact ⟨rfl, Bw.out⟩

end Go.Proofs.YtojnniacmmcddaaDoor

namespace Go.Proofs.YtojnniacmmcddaaDoor
open Go.RowKit
open Go.Lib hiding intOf
set_option linter.unusedVariables false
set_option linter.unusedSimpArgs false

theorem Ow.base {w : World} {B B' : Nat} {v : Value} {L : List Rw} (h : Ow w B v L) (hb : B' ≤ B) : Ow w B' v L := by
  refine ⟨h.1, ?_⟩
  rcases h.2 with ⟨e1, e2⟩ | ⟨g, cap, cur, e1, e2, e3⟩
  · exact .inl ⟨e1, e2⟩
  · exact .inr ⟨g, cap, cur, e1, Nat.le_trans hb e2, e3⟩

set_option maxRecDepth 20000 in
set_option maxHeartbeats 4000000 in
theorem sub_dir (ad : Option Addr) (cap n : Nat) (nx : Int) (s : List UInt8) (q : Rw) (w : World) (M : List Rw)
    (KA : Hid (∀ W, Below w.heap.size w W → Calls Tryd.prog 28 #[.agg #[.slice ad n cap, .int .i64 nx], .string (bs s)] W fun e w' => e = .returned (.tuple #[.agg #[.string (bs q.p), .int .i64 q.id, .int .i64 q.kind, .int .i64 q.mode, .int .i64 0, .int .i64 0, .int .i64 0, .string ⟨#[]⟩, .string ⟨#[]⟩, .string ⟨#[]⟩, .slice none 0 0, .int .i64 q.size, .bool q.made], .bool true]) ∧ Below W.heap.size W w'))
    (KD : Hid (∀ W, Calls Tryd.prog 29 #[.agg #[.string (bs q.p), .int .i64 q.id, .int .i64 q.kind, .int .i64 q.mode, .int .i64 0, .int .i64 0, .int .i64 0, .string ⟨#[]⟩, .string ⟨#[]⟩, .string ⟨#[]⟩, .slice none 0 0, .int .i64 q.size, .bool q.made]] W fun e w' => e = .returned (.bool true) ∧ Below W.heap.size W w'))
    (KK : Hid (∀ W gs, Below w.heap.size w W → W.cell? ⟨gs, 0, none⟩ = some (.string (bs s)) → Calls Tryd.prog 34 #[.slice ad n cap, .func (.func 54) #[] #[.pointer (some ⟨gs, 0, none⟩)]] W fun e w' => ∃ v, e = .returned v ∧ Ow w' W.heap.size v M ∧ Below W.heap.size W w')) :
    Calls Tryd.prog 32 #[.agg #[.slice ad n cap, .int .i64 nx], .string (bs s)] w fun e w' => ∃ v, e = .returned (.tuple #[v, .int .i64 0]) ∧ Ow w' w.heap.size v M ∧ Below w.heap.size w w' := by
  have H0 := Two.mk0 w #[.slice ad n cap, .int .i64 nx] #[.string (bs s)] 26 9
  go_enter Tryd.func32, Tryd.ntmps32
  go_upto_region 2 with (first
    | (go_at_call 28; refine (KA.out _ H0.2.2.1).mono ?_; rintro e w2 ⟨rfl, b2⟩; have H2 : Hid (Two w w2 _ _ _ _) := Two.next H0 b2; clear b2)
    | (refine wpList_store_row rfl 40 _ _ rfl w2.heap.size #[.string (bs q.p), .int .i64 q.id, .int .i64 q.kind, .int .i64 q.mode, .int .i64 0, .int .i64 0, .int .i64 0, .string ⟨#[]⟩, .string ⟨#[]⟩, .string ⟨#[]⟩, .slice none 0 0, .int .i64 q.size, .bool q.made] rfl rfl 40 _ (heap_alloc_new w2 _) (by kernel_rfl) rfl (by simp [Value.oneCell']) ?_))
  have b3 : Below w2.heap.size w2 ((w2.alloc (.cells #[.string ⟨#[]⟩, .int .i64 0, .int .i64 0, .int .i64 0, .int .i64 0, .int .i64 0, .int .i64 0, .string ⟨#[]⟩, .string ⟨#[]⟩, .string ⟨#[]⟩, .slice none 0 0, .int .i64 0, .bool false] 40)).setRow w2.heap.size #[.string (bs q.p), .int .i64 q.id, .int .i64 q.kind, .int .i64 q.mode, .int .i64 0, .int .i64 0, .int .i64 0, .string ⟨#[]⟩, .string ⟨#[]⟩, .string ⟨#[]⟩, .slice none 0 0, .int .i64 q.size, .bool q.made]) := below_setRow (below_box w2 _) (Nat.le_refl _) _
  have r3 := setRow_heap (w2.alloc (.cells #[.string ⟨#[]⟩, .int .i64 0, .int .i64 0, .int .i64 0, .int .i64 0, .int .i64 0, .int .i64 0, .string ⟨#[]⟩, .string ⟨#[]⟩, .string ⟨#[]⟩, .slice none 0 0, .int .i64 0, .bool false] 40)) w2.heap.size _ #[.string (bs q.p), .int .i64 q.id, .int .i64 q.kind, .int .i64 q.mode, .int .i64 0, .int .i64 0, .int .i64 0, .string ⟨#[]⟩, .string ⟨#[]⟩, .string ⟨#[]⟩, .slice none 0 0, .int .i64 q.size, .bool q.made] _ _ (heap_alloc_new w2 _)
  generalize (w2.alloc _).setRow _ _ = w3 at *
  have H3 : Hid (Two w w3 _ _ _ _) := Two.next H2.out b3
  clear H2 b3 H0
  have m1 := cells_of H3.out.1
  have m2 := cells_of H3.out.2.1
  have m3 := cells_of r3
  go_upto_region 6 with (go_at_call 29; refine (KD.out _).mono ?_; rintro e w4 ⟨rfl, k4⟩; have H4 : Hid (Two w w4 _ _ _ _) := Two.next H3.out k4)
  clear m1 m2 m3
  have m1 := cells_of H4.out.1
  have m2 := cells_of H4.out.2.1
  have K1 := KK.out _ (w.heap.size + 1) H4.out.2.2.1 (m2 0)
  go_wp2_with (go_at_call 34; refine K1.mono ?_; rintro e w5 ⟨v, rfl, O5, b5⟩)
  go_ret2
  exact ⟨v, rfl, O5.base H4.out.2.2.1.size, H4.out.2.2.1.trans (b5.mono H4.out.2.2.1.size)⟩

set_option maxRecDepth 20000 in
set_option maxHeartbeats 4000000 in
theorem sub_root (ad : Option Addr) (cap n : Nat) (nx : Int) (q : Rw) (w : World) (M : List Rw)
    (KA : Hid (∀ W, Below w.heap.size w W → Calls Tryd.prog 28 #[.agg #[.slice ad n cap, .int .i64 nx], .string ⟨#[]⟩] W fun e w' => e = .returned (.tuple #[.agg #[.string (bs q.p), .int .i64 q.id, .int .i64 q.kind, .int .i64 q.mode, .int .i64 0, .int .i64 0, .int .i64 0, .string ⟨#[]⟩, .string ⟨#[]⟩, .string ⟨#[]⟩, .slice none 0 0, .int .i64 q.size, .bool q.made], .bool false]) ∧ Below W.heap.size W w'))
    (KK : Hid (∀ W gs, Below w.heap.size w W → W.cell? ⟨gs, 0, none⟩ = some (.string ⟨#[]⟩) → Calls Tryd.prog 34 #[.slice ad n cap, .func (.func 54) #[] #[.pointer (some ⟨gs, 0, none⟩)]] W fun e w' => ∃ v, e = .returned v ∧ Ow w' W.heap.size v M ∧ Below W.heap.size W w')) :
    Calls Tryd.prog 32 #[.agg #[.slice ad n cap, .int .i64 nx], .string ⟨#[]⟩] w fun e w' => ∃ v, e = .returned (.tuple #[v, .int .i64 0]) ∧ Ow w' w.heap.size v M ∧ Below w.heap.size w w' := by
  have H0 := Two.mk0 w #[.slice ad n cap, .int .i64 nx] #[.string ⟨#[]⟩] 26 9
  go_enter Tryd.func32, Tryd.ntmps32
  go_upto_region 2 with (first
    | (go_at_call 28; refine (KA.out _ H0.2.2.1).mono ?_; rintro e w2 ⟨rfl, b2⟩; have H2 : Hid (Two w w2 _ _ _ _) := Two.next H0 b2; clear b2)
    | (refine wpList_store_row rfl 40 _ _ rfl w2.heap.size #[.string (bs q.p), .int .i64 q.id, .int .i64 q.kind, .int .i64 q.mode, .int .i64 0, .int .i64 0, .int .i64 0, .string ⟨#[]⟩, .string ⟨#[]⟩, .string ⟨#[]⟩, .slice none 0 0, .int .i64 q.size, .bool q.made] rfl rfl 40 _ (heap_alloc_new w2 _) (by kernel_rfl) rfl (by simp [Value.oneCell']) ?_))
  have b3 : Below w2.heap.size w2 ((w2.alloc (.cells #[.string ⟨#[]⟩, .int .i64 0, .int .i64 0, .int .i64 0, .int .i64 0, .int .i64 0, .int .i64 0, .string ⟨#[]⟩, .string ⟨#[]⟩, .string ⟨#[]⟩, .slice none 0 0, .int .i64 0, .bool false] 40)).setRow w2.heap.size #[.string (bs q.p), .int .i64 q.id, .int .i64 q.kind, .int .i64 q.mode, .int .i64 0, .int .i64 0, .int .i64 0, .string ⟨#[]⟩, .string ⟨#[]⟩, .string ⟨#[]⟩, .slice none 0 0, .int .i64 q.size, .bool q.made]) := below_setRow (below_box w2 _) (Nat.le_refl _) _
  have r3 := setRow_heap (w2.alloc (.cells #[.string ⟨#[]⟩, .int .i64 0, .int .i64 0, .int .i64 0, .int .i64 0, .int .i64 0, .int .i64 0, .string ⟨#[]⟩, .string ⟨#[]⟩, .string ⟨#[]⟩, .slice none 0 0, .int .i64 0, .bool false] 40)) w2.heap.size _ #[.string (bs q.p), .int .i64 q.id, .int .i64 q.kind, .int .i64 q.mode, .int .i64 0, .int .i64 0, .int .i64 0, .string ⟨#[]⟩, .string ⟨#[]⟩, .string ⟨#[]⟩, .slice none 0 0, .int .i64 q.size, .bool q.made] _ _ (heap_alloc_new w2 _)
  generalize (w2.alloc _).setRow _ _ = w3 at *
  have H3 : Hid (Two w w3 _ _ _ _) := Two.next H2.out b3
  clear H2 b3 H0
  have m1 := cells_of H3.out.1
  have m2 := cells_of H3.out.2.1
  have m3 := cells_of r3
  go_upto_region 6 with fail
  have H4 := H3
  clear m1 m2 m3
  have m1 := cells_of H4.out.1
  have m2 := cells_of H4.out.2.1
  have K1 := KK.out _ (w.heap.size + 1) H4.out.2.2.1 (m2 0)
  go_wp2_with (go_at_call 34; refine K1.mono ?_; rintro e w5 ⟨v, rfl, O5, b5⟩)
  go_ret2
  exact ⟨v, rfl, O5.base H4.out.2.2.1.size, H4.out.2.2.1.trans (b5.mono H4.out.2.2.1.size)⟩

set_option maxRecDepth 20000 in
set_option maxHeartbeats 4000000 in
theorem list_dir (ad : Option Addr) (cap n : Nat) (nx : Int) (s : List UInt8) (q : Rw) (w : World) (M M2 : List Rw)
    (KA : Hid (∀ W, Below w.heap.size w W → Calls Tryd.prog 28 #[.agg #[.slice ad n cap, .int .i64 nx], .string (bs s)] W fun e w' => e = .returned (.tuple #[.agg #[.string (bs q.p), .int .i64 q.id, .int .i64 q.kind, .int .i64 q.mode, .int .i64 0, .int .i64 0, .int .i64 0, .string ⟨#[]⟩, .string ⟨#[]⟩, .string ⟨#[]⟩, .slice none 0 0, .int .i64 q.size, .bool q.made], .bool true]) ∧ Below W.heap.size W w'))
    (KD : Hid (∀ W, Calls Tryd.prog 29 #[.agg #[.string (bs q.p), .int .i64 q.id, .int .i64 q.kind, .int .i64 q.mode, .int .i64 0, .int .i64 0, .int .i64 0, .string ⟨#[]⟩, .string ⟨#[]⟩, .string ⟨#[]⟩, .slice none 0 0, .int .i64 q.size, .bool q.made]] W fun e w' => e = .returned (.bool true) ∧ Below W.heap.size W w'))
    (KS : Hid (∀ W, Below w.heap.size w W → Calls Tryd.prog 32 #[.agg #[.slice ad n cap, .int .i64 nx], .string (bs s)] W fun e w' => ∃ v, e = .returned (.tuple #[v, .int .i64 0]) ∧ Ow w' W.heap.size v M ∧ Below W.heap.size W w'))
    (KK : Hid (∀ W gs ad' c', Rs W ad' M → W.cell? ⟨gs, 0, none⟩ = some (.string (bs s)) → Calls Tryd.prog 34 #[.slice ad' M.length c', .func (.func 35) #[] #[.pointer (some ⟨gs, 0, none⟩)]] W fun e w' => ∃ v, e = .returned v ∧ Ow w' W.heap.size v M2 ∧ Below W.heap.size W w'))
    (KO : Hid (∀ W B v, Ow W B v M2 → B ≤ W.heap.size → Calls Tryd.prog 33 #[v] W fun e w' => e = .returned v ∧ Below W.heap.size W w')) :
    Calls Tryd.prog 11 #[.agg #[.slice ad n cap, .int .i64 nx], .string (bs s)] w fun e w' => ∃ v, e = .returned (.tuple #[v, .int .i64 0]) ∧ Ow w' w.heap.size v M2 ∧ Below w.heap.size w w' := by
  have H0 := Two.mk0 w #[.slice ad n cap, .int .i64 nx] #[.string (bs s)] 26 9
  go_enter Tryd.func11, Tryd.ntmps11
  go_upto_region 2 with (first
    | (go_at_call 28; refine (KA.out _ H0.2.2.1).mono ?_; rintro e w2 ⟨rfl, b2⟩; have H2 : Hid (Two w w2 _ _ _ _) := Two.next H0 b2; clear b2)
    | (refine wpList_store_row rfl 40 _ _ rfl w2.heap.size #[.string (bs q.p), .int .i64 q.id, .int .i64 q.kind, .int .i64 q.mode, .int .i64 0, .int .i64 0, .int .i64 0, .string ⟨#[]⟩, .string ⟨#[]⟩, .string ⟨#[]⟩, .slice none 0 0, .int .i64 q.size, .bool q.made] rfl rfl 40 _ (heap_alloc_new w2 _) (by kernel_rfl) rfl (by simp [Value.oneCell']) ?_))
  have b3 : Below w2.heap.size w2 ((w2.alloc (.cells #[.string ⟨#[]⟩, .int .i64 0, .int .i64 0, .int .i64 0, .int .i64 0, .int .i64 0, .int .i64 0, .string ⟨#[]⟩, .string ⟨#[]⟩, .string ⟨#[]⟩, .slice none 0 0, .int .i64 0, .bool false] 40)).setRow w2.heap.size #[.string (bs q.p), .int .i64 q.id, .int .i64 q.kind, .int .i64 q.mode, .int .i64 0, .int .i64 0, .int .i64 0, .string ⟨#[]⟩, .string ⟨#[]⟩, .string ⟨#[]⟩, .slice none 0 0, .int .i64 q.size, .bool q.made]) := below_setRow (below_box w2 _) (Nat.le_refl _) _
  have r3 := setRow_heap (w2.alloc (.cells #[.string ⟨#[]⟩, .int .i64 0, .int .i64 0, .int .i64 0, .int .i64 0, .int .i64 0, .int .i64 0, .string ⟨#[]⟩, .string ⟨#[]⟩, .string ⟨#[]⟩, .slice none 0 0, .int .i64 0, .bool false] 40)) w2.heap.size _ #[.string (bs q.p), .int .i64 q.id, .int .i64 q.kind, .int .i64 q.mode, .int .i64 0, .int .i64 0, .int .i64 0, .string ⟨#[]⟩, .string ⟨#[]⟩, .string ⟨#[]⟩, .slice none 0 0, .int .i64 q.size, .bool q.made] _ _ (heap_alloc_new w2 _)
  generalize (w2.alloc _).setRow _ _ = w3 at *
  have H3 : Hid (Two w w3 _ _ _ _) := Two.next H2.out b3
  clear H2 b3 H0
  have m1 := cells_of H3.out.1
  have m2 := cells_of H3.out.2.1
  have m3 := cells_of r3
  go_upto_region 4 with (go_at_call 29; refine (KD.out _).mono ?_; rintro e w4 ⟨rfl, k4⟩; have H4 : Hid (Two w w4 _ _ _ _) := Two.next H3.out k4)
  clear m1 m2 m3
  have m1 := cells_of H4.out.1
  have m2 := cells_of H4.out.2.1
  have K1 := KS.out _ H4.out.2.2.1
  go_upto_region 5 with (go_at_call 32; refine K1.mono ?_; rintro e w5 ⟨v5, rfl, O5, b5⟩)
  have H5 : Hid (Two w w5 _ _ _ _) := Two.next H4.out b5
  obtain ⟨ad5, c5, hv⟩ : ∃ ad2 c2, v5 = .slice ad2 M.length c2 := by
    rcases O5.2 with ⟨e1, e2⟩ | ⟨g, c, cur, e1, _⟩
    · exact ⟨none, 0, by rw [e1, ← e2]⟩
    · exact ⟨some ⟨g, 0, none⟩, c, e1⟩
  subst hv
  have R5 := (Ow.rs O5).2
  clear m1 m2 K1 O5 b5 H4
  have m1 := cells_of H5.out.1
  have m2 := cells_of H5.out.2.1
  have K2 := KK.out _ (w.heap.size + 1) ad5 c5 R5 (m2 0)
  go_wp2_with (first
    | (go_at_call 34; refine K2.mono ?_; rintro e w6 ⟨v6, rfl, O6, b6⟩; have K3 := KO.out _ _ _ O6 b6.size)
    | (go_at_call 33; refine K3.mono ?_; rintro e w7 ⟨rfl, b7⟩))
  go_ret2
  have b57 : Below w5.heap.size w5 w7 := b6.trans (b7.mono b6.size)
  exact ⟨v6, rfl, (O6.below b7).base H5.out.2.2.1.size, H5.out.2.2.1.trans (b57.mono H5.out.2.2.1.size)⟩

set_option maxRecDepth 20000 in
set_option maxHeartbeats 4000000 in
theorem list_root (ad : Option Addr) (cap n : Nat) (nx : Int) (q : Rw) (w : World) (M M2 : List Rw)
    (KA : Hid (∀ W, Below w.heap.size w W → Calls Tryd.prog 28 #[.agg #[.slice ad n cap, .int .i64 nx], .string ⟨#[]⟩] W fun e w' => e = .returned (.tuple #[.agg #[.string (bs q.p), .int .i64 q.id, .int .i64 q.kind, .int .i64 q.mode, .int .i64 0, .int .i64 0, .int .i64 0, .string ⟨#[]⟩, .string ⟨#[]⟩, .string ⟨#[]⟩, .slice none 0 0, .int .i64 q.size, .bool q.made], .bool false]) ∧ Below W.heap.size W w'))
    (KS : Hid (∀ W, Below w.heap.size w W → Calls Tryd.prog 32 #[.agg #[.slice ad n cap, .int .i64 nx], .string ⟨#[]⟩] W fun e w' => ∃ v, e = .returned (.tuple #[v, .int .i64 0]) ∧ Ow w' W.heap.size v M ∧ Below W.heap.size W w'))
    (KK : Hid (∀ W gs ad' c', Rs W ad' M → W.cell? ⟨gs, 0, none⟩ = some (.string ⟨#[]⟩) → Calls Tryd.prog 34 #[.slice ad' M.length c', .func (.func 35) #[] #[.pointer (some ⟨gs, 0, none⟩)]] W fun e w' => ∃ v, e = .returned v ∧ Ow w' W.heap.size v M2 ∧ Below W.heap.size W w'))
    (KO : Hid (∀ W B v, Ow W B v M2 → B ≤ W.heap.size → Calls Tryd.prog 33 #[v] W fun e w' => e = .returned v ∧ Below W.heap.size W w')) :
    Calls Tryd.prog 11 #[.agg #[.slice ad n cap, .int .i64 nx], .string ⟨#[]⟩] w fun e w' => ∃ v, e = .returned (.tuple #[v, .int .i64 0]) ∧ Ow w' w.heap.size v M2 ∧ Below w.heap.size w w' := by
  have H0 := Two.mk0 w #[.slice ad n cap, .int .i64 nx] #[.string ⟨#[]⟩] 26 9
  go_enter Tryd.func11, Tryd.ntmps11
  go_upto_region 2 with (first
    | (go_at_call 28; refine (KA.out _ H0.2.2.1).mono ?_; rintro e w2 ⟨rfl, b2⟩; have H2 : Hid (Two w w2 _ _ _ _) := Two.next H0 b2; clear b2)
    | (refine wpList_store_row rfl 40 _ _ rfl w2.heap.size #[.string (bs q.p), .int .i64 q.id, .int .i64 q.kind, .int .i64 q.mode, .int .i64 0, .int .i64 0, .int .i64 0, .string ⟨#[]⟩, .string ⟨#[]⟩, .string ⟨#[]⟩, .slice none 0 0, .int .i64 q.size, .bool q.made] rfl rfl 40 _ (heap_alloc_new w2 _) (by kernel_rfl) rfl (by simp [Value.oneCell']) ?_))
  have b3 : Below w2.heap.size w2 ((w2.alloc (.cells #[.string ⟨#[]⟩, .int .i64 0, .int .i64 0, .int .i64 0, .int .i64 0, .int .i64 0, .int .i64 0, .string ⟨#[]⟩, .string ⟨#[]⟩, .string ⟨#[]⟩, .slice none 0 0, .int .i64 0, .bool false] 40)).setRow w2.heap.size #[.string (bs q.p), .int .i64 q.id, .int .i64 q.kind, .int .i64 q.mode, .int .i64 0, .int .i64 0, .int .i64 0, .string ⟨#[]⟩, .string ⟨#[]⟩, .string ⟨#[]⟩, .slice none 0 0, .int .i64 q.size, .bool q.made]) := below_setRow (below_box w2 _) (Nat.le_refl _) _
  have r3 := setRow_heap (w2.alloc (.cells #[.string ⟨#[]⟩, .int .i64 0, .int .i64 0, .int .i64 0, .int .i64 0, .int .i64 0, .int .i64 0, .string ⟨#[]⟩, .string ⟨#[]⟩, .string ⟨#[]⟩, .slice none 0 0, .int .i64 0, .bool false] 40)) w2.heap.size _ #[.string (bs q.p), .int .i64 q.id, .int .i64 q.kind, .int .i64 q.mode, .int .i64 0, .int .i64 0, .int .i64 0, .string ⟨#[]⟩, .string ⟨#[]⟩, .string ⟨#[]⟩, .slice none 0 0, .int .i64 q.size, .bool q.made] _ _ (heap_alloc_new w2 _)
  generalize (w2.alloc _).setRow _ _ = w3 at *
  have H3 : Hid (Two w w3 _ _ _ _) := Two.next H2.out b3
  clear H2 b3 H0
  have m1 := cells_of H3.out.1
  have m2 := cells_of H3.out.2.1
  have m3 := cells_of r3
  go_upto_region 4 with fail
  have H4 := H3
  clear m1 m2 m3
  have m1 := cells_of H4.out.1
  have m2 := cells_of H4.out.2.1
  have K1 := KS.out _ H4.out.2.2.1
  go_upto_region 5 with (go_at_call 32; refine K1.mono ?_; rintro e w5 ⟨v5, rfl, O5, b5⟩)
  have H5 : Hid (Two w w5 _ _ _ _) := Two.next H4.out b5
  obtain ⟨ad5, c5, hv⟩ : ∃ ad2 c2, v5 = .slice ad2 M.length c2 := by
    rcases O5.2 with ⟨e1, e2⟩ | ⟨g, c, cur, e1, _⟩
    · exact ⟨none, 0, by rw [e1, ← e2]⟩
    · exact ⟨some ⟨g, 0, none⟩, c, e1⟩
  subst hv
  have R5 := (Ow.rs O5).2
  clear m1 m2 K1 O5 b5 H4
  have m1 := cells_of H5.out.1
  have m2 := cells_of H5.out.2.1
  have K2 := KK.out _ (w.heap.size + 1) ad5 c5 R5 (m2 0)
  go_wp2_with (first
    | (go_at_call 34; refine K2.mono ?_; rintro e w6 ⟨v6, rfl, O6, b6⟩; have K3 := KO.out _ _ _ O6 b6.size)
    | (go_at_call 33; refine K3.mono ?_; rintro e w7 ⟨rfl, b7⟩))
  go_ret2
  have b57 : Below w5.heap.size w5 w7 := b6.trans (b7.mono b6.size)
  exact ⟨v6, rfl, (O6.below b7).base H5.out.2.2.1.size, H5.out.2.2.1.trans (b57.mono H5.out.2.2.1.size)⟩

end Go.Proofs.YtojnniacmmcddaaDoor

