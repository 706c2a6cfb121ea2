/-
  Contract: withParents, where nothing is made.
-/
import Derived.Test.YtojnniacmmcddaaDoorP1
namespace Go.Proofs.YtojnniacmmcddaaDoor
open Go.RowKit
open Go.Lib hiding intOf
set_option linter.unusedVariables false
set_option linter.unusedSimpArgs false

set_option maxRecDepth 20000 in
set_option maxHeartbeats 2000000 in
theorem wp_root (ad : Option Addr) (cap n : Nat) (nx : Int) (s : List UInt8) (w : World) (hs : s ≠ []) (hsl : s.length ≤ 1000000) (hu : upL s = []) :
    Calls Tryd.prog 30 #[.agg #[.slice ad n cap, .int .i64 nx], .string (bs s)] w fun e w' => e = .returned (.tuple #[.agg #[.slice ad n cap, .int .i64 nx], .int .i64 0]) ∧ Below w.heap.size w w' := by
  have KU : Hid (∀ W, Calls Tryd.prog 15 #[.string (bs s)] W fun e w' => e = .returned (.tuple #[.string (bs []), .bool true]) ∧ w' = W) := fun W => by
    have := up_some s hs (by omega) W
    rwa [hu] at this
  have H0 := Two.mk0 w #[.slice ad n cap, .int .i64 nx] #[.slice none 0 0, .int .i64 0] 26 26
  have ht := bs_toList []
  clear hs hsl hu
  go_enter Tryd.func30, Tryd.ntmps30
  go_wp2_with (go_at_call 15; refine (KU.out _).mono ?_; rintro e w' ⟨rfl, hw⟩; rw [hw])
  refine wp_loop_rounds 1 ?_
  rw [rounds_succ]
  go_wp2_with fail
  have hg := heap_alloc_new (w.alloc (.cells #[.slice ad n cap, .int .i64 nx] 26)) (.cells #[.slice ad n cap, .int .i64 nx] 26)
  rw [size_box] at hg
  have hld := run_loadVar_row _ _ _ 26 _ _ _ hg Tryd.underlying26 rfl (by kernel_rfl)
  exact bodyPost_ret (by rw [results_cell_tmp rfl]; simp [asAddr, hld]) rfl ⟨rfl, (below_box w _).alloc (by rw [size_box]; omega) _⟩

set_option maxRecDepth 20000 in
set_option maxHeartbeats 2000000 in
theorem wp_dir (ad : Option Addr) (cap : Nat) (nx : Int) (L : List Rw) (s : List UInt8) (w : World) (hL : Srt L) (hr : Rs w ad L) (hl : L.length ≤ 1000000) (hp : ∀ r ∈ L, r.p.length ≤ 4611686018427387903) (hs : s ≠ []) (hsl : s.length ≤ 1000000) (hu : upL s ≠ []) (hf : fd L (upL s) = true) (hk : (atR L (upL s)).kind = 4) :
    Calls Tryd.prog 30 #[.agg #[.slice ad L.length cap, .int .i64 nx], .string (bs s)] w fun e w' => e = .returned (.tuple #[.agg #[.slice ad L.length cap, .int .i64 nx], .int .i64 0]) ∧ Below w.heap.size w w' := by
  have hul := up_len hs
  have KU : Hid (∀ W, Calls Tryd.prog 15 #[.string (bs s)] W fun e w' => e = .returned (.tuple #[.string (bs (upL s)), .bool true]) ∧ w' = W) := fun W => up_some s hs (by omega) W
  have KQ : Hid (∀ W, Below w.heap.size w W → Calls Tryd.prog 51 #[.agg #[.slice ad L.length cap, .int .i64 nx], .string (bs (upL s))] W fun e w' => e = .returned (.tuple #[.int .i64 (ix L (upL s) : Int), .bool true]) ∧ Below W.heap.size W w') := fun W hb => by
    have := find_w ad cap nx L (upL s) W hL (hr.below hb) hl hp (by omega)
    rwa [hf] at this
  have H0 := Two.mk0 w #[.slice ad L.length cap, .int .i64 nx] #[.slice none 0 0, .int .i64 0] 26 26
  obtain ⟨r, hr1, hr2⟩ := fd_some hf
  have ha : atR L (upL s) = r := by unfold atR; rw [hf, hr1]; rfl
  rw [ha] at hk
  obtain ⟨b, o, rfl, hb1, hb2⟩ := hr.at hr1
  have HB : Hid (∀ W, Below w.heap.size w W → W.rangeAt b (o + ix L (upL s) * 13) r.cs) := fun W hW => range_below hb2 hW hb1
  have hlt : ix L (upL s) < L.length := (List.getElem?_eq_some_iff.1 hr1).1
  have KD : Hid (∀ W, Calls Tryd.prog 29 #[.agg r.cs.toArray] W fun e w' => e = .returned (.bool true) ∧ Below W.heap.size W w') := fun W => by
    have := isDir_w r W
    rwa [decide_eq_true hk] at this
  have ht := bs_toList (upL s)
  have hE : (upL s).isEmpty = false := by simpa using hu
  generalize L.length = n at *
  generalize ix L (upL s) = i at *
  generalize upL s = t at *
  have h1 : (0 : Int) ≤ (i : Int) := by omega
  have h2 : (i : Int) < (n : Int) := by omega
  unfold Rw.cs at KD
  clear hL hr hl hp hs hsl hu hf hk ha hr1 hr2 hb2 hul hlt
  go_enter Tryd.func30, Tryd.ntmps30
  go_wp2_with (go_at_call 15; refine (KU.out _).mono ?_; rintro e w' ⟨rfl, hw⟩; rw [hw])
  refine wp_loop_rounds 1 ?_
  rw [rounds_succ]
  go_upto_region 7 with (go_at_call 51; refine (KQ.out _ H0.2.2.1).mono ?_; rintro e w2 ⟨rfl, b2⟩)
  have H2 := H0.next b2
  have c2 := cells_of H2.1
  have hR := HB.out _ H2.2.2.1
  have x0 : w2.cell? ⟨b, o + i * 13, none⟩ = some (.string (bs r.p)) := hR 0 _ rfl
  have x1 : w2.cell? ⟨b, o + i * 13 + 1, none⟩ = some (.int .i64 r.id) := hR 1 _ rfl
  have x2 : w2.cell? ⟨b, o + i * 13 + 2, none⟩ = some (.int .i64 r.kind) := hR 2 _ rfl
  have x3 : w2.cell? ⟨b, o + i * 13 + 3, none⟩ = some (.int .i64 r.mode) := hR 3 _ rfl
  have x4 : w2.cell? ⟨b, o + i * 13 + 4, none⟩ = some (.int .i64 0) := hR 4 _ rfl
  have x5 : w2.cell? ⟨b, o + i * 13 + 5, none⟩ = some (.int .i64 0) := hR 5 _ rfl
  have x6 : w2.cell? ⟨b, o + i * 13 + 6, none⟩ = some (.int .i64 0) := hR 6 _ rfl
  have x7 : w2.cell? ⟨b, o + i * 13 + 7, none⟩ = some (.string ⟨#[]⟩) := hR 7 _ rfl
  have x8 : w2.cell? ⟨b, o + i * 13 + 8, none⟩ = some (.string ⟨#[]⟩) := hR 8 _ rfl
  have x9 : w2.cell? ⟨b, o + i * 13 + 9, none⟩ = some (.string ⟨#[]⟩) := hR 9 _ rfl
  have x10 : w2.cell? ⟨b, o + i * 13 + 10, none⟩ = some (.slice none 0 0) := hR 10 _ rfl
  have x11 : w2.cell? ⟨b, o + i * 13 + 11, none⟩ = some (.int .i64 r.size) := hR 11 _ rfl
  have x12 : w2.cell? ⟨b, o + i * 13 + 12, none⟩ = some (.bool r.made) := hR 12 _ rfl
  clear HB hR
  go_wp2_with (go_at_call 29; refine (KD.out _).mono ?_; rintro e w3 ⟨rfl, b3⟩; have H3 := H2.next b3; have c3 := cells_of H3.1; have c4 := cells_of H3.2.1; have f4 := froz_of H3.2.1)
  have hg := two_set H3.2.1 (.slice (some ⟨b, o, none⟩) n cap) (.int .i64 nx)
  have hld := run_loadVar_row _ _ _ 26 _ _ _ hg Tryd.underlying26 rfl (by kernel_rfl)
  exact bodyPost_ret (by rw [results_cell_tmp rfl]; simp [asAddr, hld]) rfl ⟨rfl, (H3.2.2.1.setCell (by show _ ≤ w.heap.size + 1; omega) _).setCell (by show _ ≤ w.heap.size + 1; omega) _⟩

end Go.Proofs.YtojnniacmmcddaaDoor
