/-
  Contract: ask.Decode.
-/
import Derived.Test.YtojbfdlgjjghjaaGreatDoorKKd
namespace Go.Proofs.YtojbfdlgjjghjaaGreatDoor.K
open Go.RowKit
open Go.Lib hiding intOf
set_option linter.unusedVariables false
set_option linter.unusedSimpArgs false

/-- the numbers of a line, one by one -/
def goP : List Nat → Ak → ByteArray → Sum Int (Ak × ByteArray)
  | [], a, r => .inr (a, r)
  | f :: fs, a, r => match numP (cutW r) with
    | .inl e => .inl e
    | .inr v => goP fs (a.set f v) (cutR r)
/-- what a line asks -/
def decP (s : ByteArray) : Sum Int (Ak × List UInt8) :=
  if 16384 < s.size then .inl 2
  else if kindP (cutW s) = 0 then .inl 200
  else match goP (flds (kindP (cutW s))) { Ak.zero with k := kindP (cutW s) } (cutR s) with
    | .inl e => .inl e
    | .inr (a, r) => match lastP (kindP (cutW s)) r with
      | none => .inl 200
      | some (p, bs) => .inr ({ a with p := p }, bs)

theorem cutW_size (s : ByteArray) : (cutW s).size ≤ s.size := by
  unfold cutW
  split
  · exact Nat.le_refl _
  · rw [ByteArray.size_extract]; omega
theorem cutR_size (s : ByteArray) : (cutR s).size ≤ s.size := by
  unfold cutR
  split
  · exact Nat.zero_le _
  · rw [ByteArray.size_extract]; omega
theorem kindFrom_le : ∀ (f k : Nat) (s : ByteArray), k + f ≤ 12 → kindFrom f k s ≤ 11
  | 0, k, s, h => Nat.zero_le _
  | f + 1, k, s, h => by
    unfold kindFrom
    split
    · omega
    · exact kindFrom_le f (k + 1) s (by omega)
theorem kindP_le (s : ByteArray) : kindP s ≤ 11 := kindFrom_le 11 1 s (by omega)
theorem flds_mem (k : Int) : ∀ f ∈ flds k, f = 1 ∨ f = 2 ∨ f = 3 := by
  unfold flds
  intro f hf
  (repeat' split at hf) <;> simp at hf <;> omega
theorem numP_bad {s : ByteArray} {e : Int} (h : numP s = .inl e) : e = 200 ∨ e = 1 := by
  unfold numP at h
  split at h
  · injection h with h; omega
  · split at h
    · injection h with h; omega
    · split at h
      · injection h with h; omega
      · cases h

theorem Ak.set_k (a : Ak) (f : Nat) (v : Int) : (a.set f v).k = a.k := by unfold Ak.set; (repeat' split) <;> rfl
theorem Ak.set_p (a : Ak) (f : Nat) (v : Int) : (a.set f v).p = a.p := by unfold Ak.set; (repeat' split) <;> rfl

/-- Decode on its way -/
structure Dm (w W : World) (a : Ak) : Prop where
  bel : Below w.heap.size w W
  res : Box W w.heap.size (Ak.zero.cells (.slice none 0 0))
  box : Box W (w.heap.size + 1) (a.cells (.slice none 0 0))
theorem Dm.grow {w W W' : World} {a : Ak} (h : Dm w W a) (b : Below W.heap.size W W') : Dm w W' a :=
  ⟨h.bel.trans (b.mono h.bel.size), h.res.below b h.res.lt, h.box.below b h.box.lt⟩
theorem Dm.drew {w W : World} {a : Ak} (h : Dm w W a) : Dm w W.drew a := h.grow ((Below.refl _ W).drew)
theorem Dm.cellf {w W : World} {a : Ak} (h : Dm w W a) (f : Nat) (hf : f = 1 ∨ f = 2 ∨ f = 3) : W.cell? ⟨w.heap.size + 1, f, none⟩ = some (.int .i64 (a.get f)) := by
  rw [h.box.cell]
  rcases hf with rfl | rfl | rfl <;> rfl
theorem Dm.set {w W : World} {a : Ak} (h : Dm w W a) (f : Nat) (hf : f = 1 ∨ f = 2 ∨ f = 3) (v : Int) : Dm w (W.setCell ⟨w.heap.size + 1, f, none⟩ (.int .i64 v)) (a.set f v) := by
  have hb := h.box
  unfold Box at hb
  have e := setCell_eq_setRow W (w.heap.size + 1) f _ _ _ (.int .i64 v) hb
  have b2 := h.box.set f (.int .i64 v)
  rw [e] at b2 ⊢
  refine ⟨⟨h.bel.os, h.bel.tape, h.bel.output, by rw [setRow_size]; exact h.bel.size, fun k hk => (setRow_other _ _ _ _ (by omega)).trans (h.bel.block k hk)⟩, ?_, ?_⟩
  · unfold Box
    rw [setRow_other _ _ _ _ (by omega)]
    exact h.res
  · have e2 : (a.cells (.slice none 0 0)).setIfInBounds f (.int .i64 v) = (a.set f v).cells (.slice none 0 0) := by
      rcases hf with rfl | rfl | rfl <;> rfl
    rw [e2] at b2 ⊢
    exact b2

/-- what Decode answers -/
def DecOk (w w' : World) (e : Ending) (o : Sum Int (Ak × List UInt8)) : Prop :=
  match o with
  | .inl x => e = .returned (.tuple #[.agg (Ak.zero.cells (.slice none 0 0)), .int .i64 x])
  | .inr (a, bs) => ∃ d, e = .returned (.tuple #[.agg (a.cells d), .int .i64 0]) ∧ DatAt w' d bs

theorem one_cells (a : Ak) (d : Value) (hd : d.oneCell' = true) : (a.cells d).all (·.oneCell') = true := by
  cases d <;> first | (simp [Ak.cells, Value.oneCell']; done) | (simp [Value.oneCell'] at hd)

theorem res_end {w W : World} {a : Ak} (D : Array Value) (h : Dm w W a) : Box (W.setRow w.heap.size D) w.heap.size D ∧ Below w.heap.size w (W.setRow w.heap.size D) := by
  refine ⟨?_, ⟨h.bel.os, h.bel.tape, h.bel.output, by rw [setRow_size]; exact h.bel.size, fun k hk => (setRow_other _ _ _ _ (by omega)).trans (h.bel.block k hk)⟩⟩
  exact setRow_heap _ _ _ _ _ _ h.res

set_option maxRecDepth 20000 in
set_option maxHeartbeats 4000000 in
theorem decode_long (s : ByteArray) (h : 16384 < s.size) (h2 : s.size ≤ 9223372036854775807) (w : World) :
    Calls Tryz.prog 4 #[.string s] w fun e w' => e = .returned (.tuple #[.agg (Ak.zero.cells (.slice none 0 0)), .int .i64 2]) ∧ Below w.heap.size w w' := by
  have hz := zeroA
  have b1 : Below w.heap.size w (w.alloc (.cells (Ak.zero.cells (.slice none 0 0)) 24)) := (Below.refl _ w).alloc (Nat.le_refl _) _
  have r1 : Box (w.alloc (.cells (Ak.zero.cells (.slice none 0 0)) 24)) w.heap.size (Ak.zero.cells (.slice none 0 0)) := heap_alloc_new w _
  have r2 : (((w.alloc (.cells (Ak.zero.cells (.slice none 0 0)) 24)).setRow w.heap.size (Ak.zero.cells (.slice none 0 0))).heap[w.heap.size]? = some (.cells (Ak.zero.cells (.slice none 0 0)) 24 (0, 0))) := setRow_heap _ _ _ _ _ _ r1
  have b2 : Below w.heap.size w ((w.alloc (.cells (Ak.zero.cells (.slice none 0 0)) 24)).setRow w.heap.size (Ak.zero.cells (.slice none 0 0))) := ⟨b1.os, b1.tape, b1.output, by rw [setRow_size]; exact b1.size, fun k hk => (setRow_other _ _ _ _ (by omega)).trans (b1.block k hk)⟩
  have h3 : (16384 : Int) < s.size := by omega
  have si := sizeA Ak.zero (.slice none 0 0)
  have sk := one_cells Ak.zero (.slice none 0 0) rfl
  unfold Box at r1
  simp only [Ak.cells, Ak.zero] at *
  go_enter Tryz.func4, Tryz.ntmps4
  go_wp2_with (refine wpList_store_row rfl 24 _ _ rfl _ _ rfl rfl 24 _ r1 si rfl sk ?_)
  have hld := run_loadVar_row _ _ _ 24 _ _ _ r2 Tryz.underlying24 rfl si
  exact bodyPost_ret (by rw [results_cell_tmp rfl]; simp [asAddr, hld]) rfl ⟨rfl, b2⟩

theorem Dm.start {w W : World} (hW : W = w.alloc (.cells (Ak.zero.cells (.slice none 0 0)) 24) ∨ W = (w.alloc (.cells (Ak.zero.cells (.slice none 0 0)) 24)).drew) (a : Ak) :
    W.heap.size = w.heap.size + 1 ∧ Below w.heap.size w W ∧ Dm w (W.alloc (.cells (a.cells (.slice none 0 0)) 24)) a := by
  have b0 : Below w.heap.size w (w.alloc (.cells (Ak.zero.cells (.slice none 0 0)) 24)) := (Below.refl _ w).alloc (Nat.le_refl _) _
  have r0 : Box (w.alloc (.cells (Ak.zero.cells (.slice none 0 0)) 24)) w.heap.size (Ak.zero.cells (.slice none 0 0)) := heap_alloc_new w _
  have z0 : (w.alloc (.cells (Ak.zero.cells (.slice none 0 0)) 24)).heap.size = w.heap.size + 1 := by simp
  have b1 : Below w.heap.size w W := by rcases hW with rfl | rfl; exact b0; exact b0.drew
  have r1 : Box W w.heap.size (Ak.zero.cells (.slice none 0 0)) := by rcases hW with rfl | rfl; exact r0; exact r0
  have z1 : W.heap.size = w.heap.size + 1 := by rcases hW with rfl | rfl; exact z0; exact z0
  refine ⟨z1, b1, ?_⟩
  refine ⟨b1.alloc b1.size _, ?_, ?_⟩
  · unfold Box
    rw [Below.heap_alloc _ _ _ (by omega)]
    exact r1
  · unfold Box
    rw [← z1]
    exact heap_alloc_new W _

/-- a wrong end -/
theorem Dm.bad {w W : World} {a : Ak} (h : Dm w W a) : (W.setRow w.heap.size (Ak.zero.cells (.slice none 0 0))).heap[w.heap.size]? = some (.cells (Ak.zero.cells (.slice none 0 0)) 24 (0, 0)) ∧ Below w.heap.size w (W.setRow w.heap.size (Ak.zero.cells (.slice none 0 0))) := res_end _ h

set_option maxRecDepth 20000 in
set_option maxHeartbeats 4000000 in
theorem decode_word (s : ByteArray) (h : s.size ≤ 16384) (hk : kindP (cutW s) = 0) (w : World) (ht : Vs w) :
    Calls Tryz.prog 4 #[.string s] w fun e w' => e = .returned (.tuple #[.agg (Ak.zero.cells (.slice none 0 0)), .int .i64 200]) ∧ Below w.heap.size w w' := by
  have hz := zeroA
  have q1 := fun W => cut_w s W (by omega)
  have HK : Hid (∀ W, Below w.heap.size w W → Calls Tryz.prog 14 #[.string (cutW s)] W fun e w' => e = .returned (.int .i64 0) ∧ W = w') := fun W b => by
    have := kindOf_w (cutW s) W (ht.below b)
    rw [hk] at this
    exact this
  have HA : Hid (∀ W, W = w.alloc (.cells (Ak.zero.cells (.slice none 0 0)) 24) ∨ W = (w.alloc (.cells (Ak.zero.cells (.slice none 0 0)) 24)).drew → W.heap.size = w.heap.size + 1 ∧ Below w.heap.size w W ∧ Dm w (W.alloc (.cells (Ak.zero.cells (.slice none 0 0)) 24)) Ak.zero) := fun W hW => Dm.start hW _
  have h3 : ¬ (16384 : Int) < s.size := by omega
  have si := sizeA Ak.zero (.slice none 0 0)
  have sk := one_cells Ak.zero (.slice none 0 0) rfl
  have gi : ∀ {W : World} {a : Ak}, Dm w W a → W.heap[w.heap.size]? = some (.cells (Ak.zero.cells (.slice none 0 0)) 24 (0, 0)) ∧ (W.setRow w.heap.size (Ak.zero.cells (.slice none 0 0))).heap[w.heap.size]? = some (.cells (Ak.zero.cells (.slice none 0 0)) 24 (0, 0)) ∧ Below w.heap.size w (W.setRow w.heap.size (Ak.zero.cells (.slice none 0 0))) ∧ W.cell? ⟨w.heap.size + 1, 0, none⟩ = some (.int .i64 a.k) := fun d => ⟨d.res, d.bad.1, d.bad.2, by rw [d.box.cell]; rfl⟩
  have GI : Hid _ := @gi
  clear gi
  simp only [Ak.cells, Ak.zero] at *
  clear hk ht
  generalize cutW s = t at *
  generalize cutR s = r at *
  go_enter Tryz.func4, Tryz.ntmps4
  go_upto_region 4 with (go_at_call 13; refine (q1 _).mono ?_; rintro e w1 ⟨b, rfl, hw1⟩)
  obtain ⟨z1, b1, d1⟩ := HA.out _ hw1
  have qk := HK.out _ b1
  clear hw1 HA HK q1 b1
  go_upto_region 5 with (first | (go_at_call 14; refine qk.mono ?_; rintro e w2 ⟨rfl, rfl⟩) | (refine wpList_store_row rfl 24 _ _ rfl _ _ rfl rfl 24 _ (heap_alloc_new _ _) si rfl sk ?_))
  obtain ⟨g1, g2, g3, g4⟩ := GI.out d1
  clear d1 GI qk
  generalize World.alloc _ _ = W2 at *
  go_wp2_with (refine wpList_store_row rfl 24 _ _ rfl _ _ rfl rfl 24 _ g1 si rfl sk ?_)
  have hld := run_loadVar_row _ _ _ 24 _ _ _ g2 Tryz.underlying24 rfl si
  exact bodyPost_ret (by rw [results_cell_tmp rfl]; simp [asAddr, hld]) rfl ⟨rfl, g3⟩
end Go.Proofs.YtojbfdlgjjghjaaGreatDoor.K
