/-
  Plain: a tree laid over another one; contracts: merge.isDir, inPlace, slices.Clone of rows; append of rows, the other blocks kept.
-/
import Derived.Test.YtpgiibpalmhhlaaGreatDoorMa
import Derived.Test.YtpgiibpalmhhlaaGreatDoorDd
import Derived.Test.YtpgiibpalmhhlaaGreatDoorMW
import Derived.Maps.AppendAt
namespace Go.Proofs.YtpgiibpalmhhlaaGreatDoor
open Go.RowKit
open Go.Lib hiding intOf
set_option linter.unusedVariables false
set_option linter.unusedSimpArgs false

set_option maxHeartbeats 1000000 in
theorem isDirC_w (p : ByteArray) (id kind mode size : Int) (made : Bool) (w : World) : Calls Tryz.prog 29 #[.agg #[.string p, .int .i64 id, .int .i64 kind, .int .i64 mode, .int .i64 0, .int .i64 0, .int .i64 0, .string ⟨#[]⟩, .string ⟨#[]⟩, .string ⟨#[]⟩, .slice none 0 0, .int .i64 size, .bool made]] w fun e w' => e = .returned (.bool (decide (kind = 4))) ∧ Below w.heap.size w w' := by
  go_enter Tryz.func29, Tryz.ntmps29
  go_wp2_with fail
  go_ret
  exact ⟨rfl, below_box _ _⟩

/-- what stands where one row is laid over another one -/
def inPl (was r : Rw) : Rw := if r.kind ≠ 4 then r else if r.made then was else { r with id := was.id }

set_option maxRecDepth 20000 in
set_option maxHeartbeats 4000000 in
theorem inpl_core (A C : Array Value) (kd ida idc : Int) (mk : Bool) (w : World) (hA : A.size = 13) (hC : C.size = 13) (oA : A.all (·.oneCell') = true) (oC : C.all (·.oneCell') = true) (a1 : A[1]? = some (.int .i64 ida)) (c1 : C[1]? = some (.int .i64 idc)) (c12 : C[12]? = some (.bool mk))
    (KD : Hid (∀ W, Calls Tryz.prog 29 #[.agg C] W fun e w' => e = .returned (.bool (decide (kd = 4))) ∧ Below W.heap.size W w')) :
    Calls Tryz.prog 31 #[.agg A, .agg C] w fun e w' => e = .returned (.agg (if kd ≠ 4 then C else if mk then A else C.setIfInBounds 1 (.int .i64 ida))) ∧ Below w.heap.size w w' := by
  have si : ∀ D : Array Value, D.size = 13 → (Tryz.prog.info? 43).map (·.size) = some D.size := fun D h => by rw [h]; kernel_rfl
  have hZ : (#[.string ⟨#[]⟩, .int .i64 0, .int .i64 0, .int .i64 0, .int .i64 0, .int .i64 0, .int .i64 0, .string ⟨#[]⟩, .string ⟨#[]⟩, .string ⟨#[]⟩, .slice none 0 0, .int .i64 0, .bool false] : Array Value).size = 13 := rfl
  have H0 := T3.mk0 w A C #[.string ⟨#[]⟩, .int .i64 0, .int .i64 0, .int .i64 0, .int .i64 0, .int .i64 0, .int .i64 0, .string ⟨#[]⟩, .string ⟨#[]⟩, .string ⟨#[]⟩, .slice none 0 0, .int .i64 0, .bool false] 43 43 43
  have fin : ∀ (W : World) (D : Array Value), T3 w W A C #[.string ⟨#[]⟩, .int .i64 0, .int .i64 0, .int .i64 0, .int .i64 0, .int .i64 0, .int .i64 0, .string ⟨#[]⟩, .string ⟨#[]⟩, .string ⟨#[]⟩, .slice none 0 0, .int .i64 0, .bool false] 43 43 43 → True := fun _ _ _ => trivial
  have siA := hid (si A hA)
  have siC := hid (si C hC)
  have sjA : Hid ((#[.string ⟨#[]⟩, .int .i64 0, .int .i64 0, .int .i64 0, .int .i64 0, .int .i64 0, .int .i64 0, .string ⟨#[]⟩, .string ⟨#[]⟩, .string ⟨#[]⟩, .slice none 0 0, .int .i64 0, .bool false] : Array Value).size = A.size) := hZ.trans hA.symm
  have sjC : Hid ((#[.string ⟨#[]⟩, .int .i64 0, .int .i64 0, .int .i64 0, .int .i64 0, .int .i64 0, .int .i64 0, .string ⟨#[]⟩, .string ⟨#[]⟩, .string ⟨#[]⟩, .slice none 0 0, .int .i64 0, .bool false] : Array Value).size = C.size) := hZ.trans hC.symm
  have HoA := hid oA
  have HoC := hid oC
  clear fin si oA oC
  have hC' : Hid (C.size = 13) := hC
  clear hC hA
  go_enter Tryz.func31, Tryz.ntmps31
  go_upto_region 1 with fail
  generalize ((w.alloc _).alloc _).alloc _ = w0 at *
  have Hh : Hid (T3 w w0 _ _ _ _ _ _) := H0
  clear H0
  by_cases hk : kd = 4
  · have hdk : decide (kd = 4) = true := decide_eq_true hk
    rw [hdk] at KD
    go_upto_region 3 with (first
      | (refine wpList_load_row rfl 43 _ rfl (w.heap.size + 1) rfl 43 C _ _ Hh.out.two Tryz.underlying43 rfl siC.out ?_)
      | (go_at_call 29; refine (KD.out _).mono ?_; rintro e w1 ⟨rfl, b1⟩))
    have H1 : Hid (T3 w w1 _ _ _ _ _ _) := Hh.out.next b1
    clear Hh b1
    have y1 := (cells_of H1.out.one 1).trans a1
    have x1 := (cells_of H1.out.two 1).trans c1
    have x12 := (cells_of H1.out.two 12).trans c12
    have f2 := froz_of H1.out.two
    cases mk with
    | true =>
      go_wp2_with (first
        | (refine wpList_load_row rfl 43 _ rfl w.heap.size rfl 43 A _ _ H1.out.one Tryz.underlying43 rfl siA.out ?_)
        | (refine wpList_store_row rfl 43 _ _ rfl (w.heap.size + 2) A rfl rfl 43 _ H1.out.thr siA.out sjA.out HoA.out ?_))
      exact bodyPost_ret (results_cell_row rfl _ _ (w.heap.size + 1 + 1) 43 _ (0, 0) _ rfl (setRow_heap _ _ _ A _ _ H1.out.thr) Tryz.underlying43 rfl siA.out) rfl ⟨by simp [hk], below_setRow H1.out.bel (by omega) _⟩
    | false =>
      have q2 : (w1.setCell ⟨w.heap.size + 1, 1, none⟩ (.int .i64 ida)).heap[w.heap.size + 1]? = some (.cells (C.setIfInBounds 1 (.int .i64 ida)) 43 (0, 0)) := heap_setCell_same _ _ _ _ _ _ H1.out.two
      have q3 : (w1.setCell ⟨w.heap.size + 1, 1, none⟩ (.int .i64 ida)).heap[w.heap.size + 2]? = some (.cells _ 43 (0, 0)) := (Below.heap_setCell _ _ _ _ (by show w.heap.size + 2 ≠ w.heap.size + 1; omega)).trans H1.out.thr
      have b2 : Hid (Below w.heap.size w (w1.setCell ⟨w.heap.size + 1, 1, none⟩ (.int .i64 ida))) := H1.out.bel.setCell (by show _ ≤ w.heap.size + 1; omega) _
      have hD : (C.setIfInBounds 1 (.int .i64 ida)).size = 13 := by simpa using hC'.out
      have oD : Hid ((C.setIfInBounds 1 (.int .i64 ida)).all (·.oneCell') = true) := (by
        show _ = true
        rw [Array.all_eq_true_iff_forall_mem]
        intro v hv
        rcases Array.mem_or_eq_of_mem_setIfInBounds hv with h | h
        · exact (Array.all_eq_true_iff_forall_mem.1 HoC.out) v h
        · rw [h]; rfl)
      have siD : Hid ((Tryz.prog.info? 43).map (·.size) = some (C.setIfInBounds 1 (.int .i64 ida)).size) := (by show _ = _; rw [hD]; kernel_rfl)
      have sjD : Hid ((#[.string ⟨#[]⟩, .int .i64 0, .int .i64 0, .int .i64 0, .int .i64 0, .int .i64 0, .int .i64 0, .string ⟨#[]⟩, .string ⟨#[]⟩, .string ⟨#[]⟩, .slice none 0 0, .int .i64 0, .bool false] : Array Value).size = (C.setIfInBounds 1 (.int .i64 ida)).size) := hZ.trans hD.symm
      have Q2 := hid q2
      have Q3 := hid q3
      clear q2 q3 hD
      go_upto_region 6 with fail
      generalize hw2 : w1.setCell ⟨w.heap.size + 1, 1, none⟩ _ = w2 at *
      clear hw2
      generalize hDD : C.setIfInBounds 1 (.int .i64 ida) = D at *
      have HDD : Hid (C.setIfInBounds 1 (.int .i64 ida) = D) := hDD
      clear hDD y1 x1 x12 f2
      go_wp2_with (first
        | (refine wpList_load_row rfl 43 _ rfl (w.heap.size + 1) rfl 43 D _ _ Q2.out Tryz.underlying43 rfl siD.out ?_)
        | (refine wpList_store_row rfl 43 _ _ rfl (w.heap.size + 2) D rfl rfl 43 _ Q3.out siD.out sjD.out oD.out ?_))
      exact bodyPost_ret (results_cell_row rfl _ _ (w.heap.size + 1 + 1) 43 _ (0, 0) _ rfl (setRow_heap _ _ _ D _ _ Q3.out) Tryz.underlying43 rfl siD.out) rfl ⟨by simp [hk, HDD.out], below_setRow b2.out (by omega) _⟩
  · have hdk : decide (kd = 4) = false := decide_eq_false hk
    rw [hdk] at KD
    go_upto_region 2 with (first
      | (refine wpList_load_row rfl 43 _ rfl (w.heap.size + 1) rfl 43 C _ _ Hh.out.two Tryz.underlying43 rfl siC.out ?_)
      | (go_at_call 29; refine (KD.out _).mono ?_; rintro e w1 ⟨rfl, b1⟩))
    have H1 : Hid (T3 w w1 _ _ _ _ _ _) := Hh.out.next b1
    clear Hh b1
    go_wp2_with (first
      | (refine wpList_load_row rfl 43 _ rfl (w.heap.size + 1) rfl 43 C _ _ H1.out.two Tryz.underlying43 rfl siC.out ?_)
      | (refine wpList_store_row rfl 43 _ _ rfl (w.heap.size + 2) C rfl rfl 43 _ H1.out.thr siC.out sjC.out HoC.out ?_))
    exact bodyPost_ret (results_cell_row rfl _ _ (w.heap.size + 1 + 1) 43 _ (0, 0) _ rfl (setRow_heap _ _ _ C _ _ H1.out.thr) Tryz.underlying43 rfl siC.out) rfl ⟨by simp [hk], below_setRow H1.out.bel (by omega) _⟩

theorem inpl_w (was r : Rw) (w : World) : Calls Tryz.prog 31 #[.agg was.cs.toArray, .agg r.cs.toArray] w fun e w' => e = .returned (.agg (inPl was r).cs.toArray) ∧ Below w.heap.size w w' := by
  have := inpl_core was.cs.toArray r.cs.toArray r.kind was.id r.id r.made w rfl rfl (all_one (cs_one was)) (all_one (cs_one r)) rfl rfl rfl (fun W => isDirC_w _ _ _ _ _ _ W)
  refine Calls.mono this ?_
  rintro e w' ⟨rfl, hb⟩
  refine ⟨?_, hb⟩
  unfold inPl
  by_cases h : r.kind ≠ 4
  · rw [if_pos h, if_pos h]
  · rw [if_neg h, if_neg h]
    by_cases hm : r.made = true
    · rw [if_pos hm, if_pos hm]
    · rw [if_neg hm, if_neg hm]; rfl

theorem cloneR_w (ad : Option Addr) (cap : Nat) (L : List Rw) (w : World) (hr : Rs w ad L) (hl : L.length ≤ 1000000) :
    Calls Tryz.prog 30 #[.slice ad L.length cap] w fun e w' => ∃ a c, e = .returned (.slice a L.length c) ∧ Rs w' a L ∧ L.length ≤ c ∧ (a = none → c = 0) ∧ Below w.heap.size w w' := by
  cases ad with
  | none =>
    obtain rfl : L = [] := by
      rcases hr with h | ⟨b, o, e, _⟩
      · exact h
      · cases e
    refine (clone_nil cap w).mono ?_
    rintro e w' ⟨rfl, rfl⟩
    exact ⟨none, 0, rfl, .inl rfl, Nat.le_refl _, fun _ => rfl, Below.refl _ _⟩
  | some a =>
    refine (clone_some a cap L w hr hl).mono ?_
    rintro e w' ⟨gd, c, rfl, h1, h2, h3, h4⟩
    exact ⟨_, c, rfl, h1, h3, (fun h => by cases h), h4⟩

/-- append of rows to rows of one's own: what it answers; no other block is touched -/
theorem run_rows {W : World} (B g0 c0 : Nat) (L : List Rw) (hown : Ow W B (.slice (some ⟨g0, 0, none⟩) L.length c0) L) (hB : B ≤ W.heap.size)
    (ad : Option Addr) (c : Nat) (M : List Rw) (hM : Rs W ad M) (hnil : ad = none → c = 0) (hl : L.length + M.length ≤ 3000000) (ty : TypeId) :
    ∃ g' c' w', (Builtin.append_ #[24, 24] ty #[.slice (some ⟨g0, 0, none⟩) L.length c0, .slice ad M.length c]).run Tryz.prog W = .ok (.slice (some ⟨g', 0, none⟩) (L.length + M.length) c') w' ∧ Ow w' B (.slice (some ⟨g', 0, none⟩) (L.length + M.length) c') (L ++ M) ∧ W.grownBy w' (some g0) ∧ (g' = g0 ∨ g' = W.heap.size) := by
  obtain ⟨i0, hi0, hi1, hi2, z, hz, hzs⟩ := i40
  cases ad with
  | none =>
    have hc := hnil rfl
    subst hc
    obtain rfl : M = [] := by
      rcases hM with h | ⟨b, o, e, _⟩
      · exact h
      · cases e
    have hrun := run_append_owned_none (P := Tryz.prog) (w := W) B 24 ty 43 i0 13 Tryz.underlying24 hi0 _ _ _ hown
    exact ⟨g0, c0, W, hrun, by rw [List.append_nil]; exact hown, World.grownBy.refl W _, .inl rfl⟩
  | some ad =>
    have hb : ∀ j u, (flat M)[j]? = some u → W.cell? (ad.add j) = some u := by
      intro j u hu
      rcases hM with h | ⟨b, o, e, _, h3⟩
      · subst h; simp [flat] at hu
      · cases e; rw [Addr.add_mid]; exact h3 j u hu
    obtain ⟨v', w', hr, h2, h3, h4, h5⟩ := run_append_own_at (P := Tryz.prog) W B 24 ty 43 i0 z 13 152 Tryz.underlying24 hi0 hz hi1 hi2 hzs (by decide) _ _ _ hown ad M.length c (flat M) (flat_length M) hb (flat_one M) (by unfold maxLen; omega) (by omega) hB
    have hne : v' ≠ .slice none 0 0 := fun e => by have := (h4.1 e).1; cases this
    obtain ⟨g', c', rfl⟩ : ∃ g' c', v' = .slice (some ⟨g', 0, none⟩) (L.length + M.length) c' := by
      rcases h2.2 with ⟨e1, e2⟩ | ⟨g', c', cur, e1, _⟩
      · exact absurd e1 hne
      · exact ⟨g', c', e1⟩
    refine ⟨g', c', w', hr, ?_, h3, by simpa [Value.ownBlock] using h5⟩
    unfold Ow
    rw [flat_append, List.length_append]
    exact h2

/-- a tree laid over another one, over what is left of both -/
def ovX (bn : Int) : List Rw → List Rw → Option (List Rw)
  | rest, [] => some rest
  | rest, r :: us =>
    if fd rest r.p then
      (if decide ((atR rest r.p).kind = 4) ≠ decide (r.kind = 4) then none
       else (ovX bn (rest.drop (ix rest r.p + 1)) us).map fun X => rest.take (ix rest r.p) ++ inPl (atR rest r.p) { r with id := r.id + bn } :: X)
    else (ovX bn (rest.drop (ix rest r.p)) us).map fun X => rest.take (ix rest r.p) ++ { r with id := r.id + bn } :: X

end Go.Proofs.YtpgiibpalmhhlaaGreatDoor
