/-
  Contract: withParents where something else stands in the way.
-/
import Derived.Test.YtojnniacmmcddaaDoorX0
namespace Go.Proofs.YtojnniacmmcddaaDoor
open Go.RowKit
open Go.Lib hiding intOf
set_option linter.unusedVariables false
set_option linter.unusedSimpArgs false

set_option maxRecDepth 20000 in
set_option maxHeartbeats 4000000 in
theorem wp_ref (ad : Option Addr) (cap n m : Nat) (nx : Int) (s : List UInt8) (E : Nat → List UInt8) (X : Nat → Nat) (w : World) (hn : n ≤ 1000000) (hm2 : m ≤ 1000)
    (KU0 : Hid (∀ W, Calls Tryd.prog 15 #[.string (bs s)] W fun e w' => e = .returned (.tuple #[.string (bs (E 0)), .bool true]) ∧ w' = W))
    (KU : Hid (∀ i, i < m → ∀ W, Calls Tryd.prog 15 #[.string (bs (E i))] W fun e w' => e = .returned (.tuple #[.string (bs (E (i + 1))), .bool true]) ∧ w' = W))
    (KQ : Hid (∀ i, i < m → ∀ W, Below w.heap.size w W → Calls Tryd.prog 51 #[.agg #[.slice ad n cap, .int .i64 nx], .string (bs (E i))] W fun e w' => e = .returned (.tuple #[.int .i64 (X i : Int), .bool false]) ∧ Below W.heap.size W w'))
    (hE : Hid (∀ i, i < m → (E i).isEmpty = false)) (hD : Hid (∀ i, i < m → (E (i + 1)).length < (E i).length))
    (h0 : Hid ((E m).isEmpty = false)) (hXn : X m < n) (KE : Hid (∀ W, Below w.heap.size w W → Calls Tryd.prog 51 #[.agg #[.slice ad n cap, .int .i64 nx], .string (bs (E m))] W fun e w' => e = .returned (.tuple #[.int .i64 (X m : Int), .bool true]) ∧ Below W.heap.size W w'))
    (r : Rw) (b o : Nat) (hk : r.kind ≠ 4) (had : Hid (ad = some ⟨b, o, none⟩)) (HB : Hid (∀ W, Below w.heap.size w W → W.rangeAt b (o + X m * 13) r.cs)) :
    Calls Tryd.prog 30 #[.agg #[.slice ad n cap, .int .i64 nx], .string (bs s)] w fun e w' => e = .returned (.tuple #[.agg #[.slice none 0 0, .int .i64 0], .int .i64 130]) ∧ Below w.heap.size w w' := by
  have H0 := Two.mk0 w #[.slice ad n cap, .int .i64 nx] #[.slice none 0 0, .int .i64 0] 26 26
  have O0 : Ow ((w.alloc (.cells #[.slice ad n cap, .int .i64 nx] 26)).alloc (.cells #[.slice none 0 0, .int .i64 0] 26)) (w.heap.size + 2) (.slice none 0 0) (mds E 0) := ⟨rfl, .inl ⟨rfl, rfl⟩⟩
  go_enter Tryd.func30, Tryd.ntmps30
  go_wp2_with (go_at_call 15; refine (KU0.out _).mono ?_; rintro e w' ⟨rfl, hw⟩; rw [hw])
  generalize (w.alloc _).alloc _ = w0 at *
  go_loopw [6, 8] (fun x6 x8 wr => ∃ (i : Nat), i ≤ m ∧ x8 = .string (bs (E i)) ∧ Hid (Two w wr #[.slice ad n cap, .int .i64 nx] #[.slice none 0 0, .int .i64 0] 26 26) ∧ Hid (Ow wr (w.heap.size + 2) x6 (mds E i))) (fun _ x8 _ => strLen x8)
  case atStart => exact ⟨0, Nat.zero_le _, rfl, H0, O0⟩
  case round =>
    obtain ⟨i, hi, rfl, H1, O1⟩ := hrel
    have ht := bs_toList (E i)
    by_cases hlt : i < m
    · have hE1 := hE.out i hlt
      have KU1 : Hid (∀ W, Calls Tryd.prog 15 #[.string (bs (E i))] W fun e w' => e = .returned (.tuple #[.string (bs (E (i + 1))), .bool true]) ∧ w' = W) := KU.out i hlt
      have KQ1 : Hid (∀ W, Below w.heap.size w W → Calls Tryd.prog 51 #[.agg #[.slice ad n cap, .int .i64 nx], .string (bs (E i))] W fun e w' => e = .returned (.tuple #[.int .i64 (X i : Int), .bool false]) ∧ Below W.heap.size W w') := KQ.out i hlt
      have hml : Hid ((mds E i).length ≤ 1000000) := (by show _ ≤ _; rw [mds_length]; omega)
      have hD1 := hD.out i hlt
      have hC := cells_of H1.out.1
      go_upto_region 11 with (go_at_call 51; refine (KQ1.out _ H1.out.2.2.1).mono ?_; rintro e w2 ⟨rfl, b2⟩)
      have H2 : Hid (Two w w2 _ _ _ _) := H1.out.next b2
      have O2 : Hid (Ow w2 _ _ _) := O1.out.below b2
      clear hC b2
      have hB2 : Hid (w.heap.size + 2 ≤ w2.heap.size) := H2.out.2.2.2
      go_wp2_with (first
        | (at_builtin; refine wpList_row2 rfl _ _ rfl w2 (w.heap.size + 2) _ (mds E i) (mkR (E i)) rfl rfl O2.out hB2.out rfl hml.out ?_; intro g3 c3 w3 O3 b3)
        | (go_at_call 15; refine (KU1.out _).mono ?_; rintro e w' ⟨rfl, hw⟩; rw [hw]))
      go_roundw
      case rel =>
        refine ⟨i + 1, hlt, rfl, H2.out.nextB b3, ?_⟩
        show Ow _ _ _ _
        rw [mds_succ]
        exact O3
      case measure => show (bs (E (i + 1))).size < (bs (E i)).size; rw [bs_size, bs_size]; exact hD1
    · obtain rfl : i = m := by omega
      have h0 := h0.out
      have had := had.out
      subst had
      have KD : Hid (∀ W, Calls Tryd.prog 29 #[.agg r.cs.toArray] W fun e w' => e = .returned (.bool false) ∧ Below W.heap.size W w') := fun W => by
        have := isDir_w r W
        rwa [decide_eq_false hk] at this
      unfold Rw.cs at KD
      have h1 : (0 : Int) ≤ (X i : Int) := by omega
      have h2 : (X i : Int) < (n : Int) := by omega
      clear KU KQ hE hD KU0 hk hXn
      have hC := cells_of H1.out.1
      go_upto_region 7 with (go_at_call 51; refine (KE.out _ H1.out.2.2.1).mono ?_; rintro e w2 ⟨rfl, b2⟩)
      have H2 : Hid (Two w w2 _ _ _ _) := H1.out.next b2
      have c2 := cells_of H2.out.1
      have hR := HB.out _ H2.out.2.2.1
      have x0 : w2.cell? ⟨b, o + X i * 13, none⟩ = some (.string (bs r.p)) := hR 0 _ rfl
      have x1 : w2.cell? ⟨b, o + X i * 13 + 1, none⟩ = some (.int .i64 r.id) := hR 1 _ rfl
      have x2 : w2.cell? ⟨b, o + X i * 13 + 2, none⟩ = some (.int .i64 r.kind) := hR 2 _ rfl
      have x3 : w2.cell? ⟨b, o + X i * 13 + 3, none⟩ = some (.int .i64 r.mode) := hR 3 _ rfl
      have x4 : w2.cell? ⟨b, o + X i * 13 + 4, none⟩ = some (.int .i64 0) := hR 4 _ rfl
      have x5 : w2.cell? ⟨b, o + X i * 13 + 5, none⟩ = some (.int .i64 0) := hR 5 _ rfl
      have x6 : w2.cell? ⟨b, o + X i * 13 + 6, none⟩ = some (.int .i64 0) := hR 6 _ rfl
      have x7 : w2.cell? ⟨b, o + X i * 13 + 7, none⟩ = some (.string ⟨#[]⟩) := hR 7 _ rfl
      have x8 : w2.cell? ⟨b, o + X i * 13 + 8, none⟩ = some (.string ⟨#[]⟩) := hR 8 _ rfl
      have x9 : w2.cell? ⟨b, o + X i * 13 + 9, none⟩ = some (.string ⟨#[]⟩) := hR 9 _ rfl
      have x10 : w2.cell? ⟨b, o + X i * 13 + 10, none⟩ = some (.slice none 0 0) := hR 10 _ rfl
      have x11 : w2.cell? ⟨b, o + X i * 13 + 11, none⟩ = some (.int .i64 r.size) := hR 11 _ rfl
      have x12 : w2.cell? ⟨b, o + X i * 13 + 12, none⟩ = some (.bool r.made) := hR 12 _ rfl
      clear HB hR hC b2
      go_wp2_with (go_at_call 29; refine (KD.out _).mono ?_; rintro e w3 ⟨rfl, b3⟩; have H3 : Hid (Two w w3 _ _ _ _) := H2.out.next b3; have d3 := cells_of H3.out.2.1; have g3 := froz_of H3.out.2.1)
      have e2 := two_set H3.out.2.1 (.slice none 0 0) (.int .i64 0)
      have hld := run_loadVar_row _ _ _ 26 _ _ _ e2 Tryd.underlying26 rfl (by kernel_rfl)
      exact bodyPost_ret (by rw [results_cell_tmp rfl]; simp [asAddr, hld]) rfl ⟨rfl, (H3.out.2.2.1.setCell (by show _ ≤ w.heap.size + 1; omega) _).setCell (by show _ ≤ w.heap.size + 1; omega) _⟩

end Go.Proofs.YtojnniacmmcddaaDoor
