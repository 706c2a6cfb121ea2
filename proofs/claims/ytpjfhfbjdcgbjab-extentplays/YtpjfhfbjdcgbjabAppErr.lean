/-
  Contract: extent.Append, with an error.
-/
import Derived.Test.YtpjfhfbjdcgbjabApp0
import Derived.Laws.ResultCell
namespace Go.Proofs.Ytpjfhfbjdcgbjab
open Go.RowKit
set_option linter.unusedVariables false
set_option linter.unusedSimpArgs false

theorem belA (w : World) (A R : Obj) : Below w.heap.size w ((w.alloc A).alloc R).drew := (((Below.refl _ w).alloc (Nat.le_refl _) _).alloc (by simp) _).drew
theorem belB (w : World) (A R Z : Obj) : Below w.heap.size w (((w.alloc A).alloc R).alloc Z).drew := ((((Below.refl _ w).alloc (Nat.le_refl _) _).alloc (by simp) _).alloc (by simp; omega) _).drew

theorem belC {w w1 : World} {A R : Obj} {o : Obj} (hb : Below ((w.alloc A).alloc R).drew.heap.size ((w.alloc A).alloc R).drew w1) : Below w.heap.size w (w1.alloc o) := by
  have b := (belA w A R).trans (hb.mono (belA w A R).size)
  exact b.alloc b.size _
theorem belD {w w1 : World} {A R Z : Obj} {u t : Value} (hb : Below (((w.alloc A).alloc R).alloc Z).drew.heap.size (((w.alloc A).alloc R).alloc Z).drew w1) : Below w.heap.size w ((w1.setCell ⟨w.heap.size + 1 + 1, 0, none⟩ u).setCell ⟨w.heap.size + 1 + 1, 1, none⟩ t) := by
  have b := (belB w A R Z).trans (hb.mono (belB w A R Z).size)
  exact (b.setCell (by show w.heap.size ≤ w.heap.size + 1 + 1; omega) _).setCell (by show w.heap.size ≤ w.heap.size + 1 + 1; omega) _

set_option maxRecDepth 100000 in
set_option maxHeartbeats 8000000 in
/-- with an error: a copy of the content, and nothing has changed -/
theorem append_err (w : World) (v : Value) (a : Option Addr) (cap : Nat) (ids : List Int) (sz : Int) (hI : Hid (Ids w a ids)) (hl : ids.length ≤ 1048576) (hnil : Hid (a = none → cap = 0)) (ab : Option Addr) (bl capb : Nat) (code : Int) (hc : ¬ code = 0)
    (hcan : ∀ W, Below w.heap.size w W → Calls Try.prog 18 #[v, .agg #[.slice a ids.length cap, .int .i64 sz], .int .i64 (bl : Int)] W fun e w' => e = .returned (.int .i64 code) ∧ Below W.heap.size W w') :
    Calls Try.prog 12 #[v, .agg #[.slice a ids.length cap, .int .i64 sz], .slice ab bl capb] w fun e w' => ∃ a' c', e = .returned (.tuple #[.agg #[.slice a' ids.length c', .int .i64 sz], .int .i64 code]) ∧ Own w' w.heap.size (.slice a' ids.length c') ids ∧ Below w.heap.size w w' := by
  have qc : ∀ W, Below w.heap.size w W → Calls Try.prog 17 #[.slice a ids.length cap] W fun e w' => ∃ a' c', e = .returned (.slice a' ids.length c') ∧ Own w' W.heap.size (.slice a' ids.length c') ids ∧ Below W.heap.size W w' := fun W h => (clone_w a cap ids W (hI.out.grow h) hl hnil.out).mono fun e w' ⟨v, he, ho, hb⟩ => by obtain ⟨a', c', rfl, _⟩ := ho.form; exact ⟨a', c', he, ho, hb⟩
  go_enter Try.func12, Try.ntmps12
  go_upto_region 1 with fail
  go_cut [8] (fun s8 wx => ∃ g8 a' c', s8 = .pointer (some ⟨g8, 0, none⟩) ∧ Mid w wx 0 0 0 w.heap.size (w.heap.size + 1) g8 (.slice a ids.length cap) sz (.slice a' ids.length c') ids sz ∧ Below w.heap.size w wx)
  case first =>
    go_region_with (go_at_call 17; refine (qc _ (by first | exact belA _ _ _ | exact belB _ _ _ _)).mono ?_; rintro e w1 ⟨a', c', rfl, ho, hb⟩; first | (have jj := boxB rfl rfl hb; obtain ⟨j1, j2, j3, j4, j5, j6, j7, j8⟩ := jj) | (have jj := boxA rfl hb; obtain ⟨j1, j2, j3, j4, j5⟩ := jj))
    all_goals go_wp2_with fail
    all_goals go_meet
    all_goals first | exact ⟨_, a', c', rfl, midA hb ho, belC hb⟩ | exact ⟨_, a', c', rfl, midB hb ho, belD hb⟩
  case rest =>
    obtain ⟨g8, a', c', rfl, M, B⟩ := hcut
    have k0 := M.b0
    have k1 := M.b1
    have q := hcan _ B
    clear qc
    go_wp2_with fail
    refine q.mono ?_
    rintro e w2 ⟨rfl, b2⟩
    clear q hcan k0 k1
    have o0 : w2.cell? ⟨g8, 0, none⟩ = some (.slice a' ids.length c') := cell_below b2 M.o0
    have o1 : w2.cell? ⟨g8, 1, none⟩ = some (.int .i64 sz) := cell_below b2 M.o1
    obtain ⟨x, y, hxy⟩ := M.res
    have h2 := heap_below b2 hxy
    have r0 : w2.cell? ⟨w.heap.size + 1, 0, none⟩ = some x := by simp [World.cell?, h2]
    have r1 : w2.cell? ⟨w.heap.size + 1, 1, none⟩ = some y := by simp [World.cell?, h2]
    have f0 : w2.frozen? ⟨w.heap.size + 1, 0, none⟩ = false := by simp [World.frozen?, h2]
    have f1 : w2.frozen? ⟨w.heap.size + 1, 1, none⟩ = false := by simp [World.frozen?, h2]
    have B2 : Below w.heap.size w w2 := B.trans (b2.mono B.size)
    have Ow : Own w2 w.heap.size (.slice a' ids.length c') ids := M.own.moved fun g h1 h3 _ => b2.block g h3
    have Ow2 : ∀ u t, Own ((w2.setCell ⟨w.heap.size + 1, 0, none⟩ u).setCell ⟨w.heap.size + 1, 1, none⟩ t) w.heap.size (.slice a' ids.length c') ids := fun u t => Ow.moved fun g h1 h3 ht => by
      have hne : g ≠ w.heap.size + 1 := by rintro rfl; have := ht _ _ _ h2; cases this
      rw [Below.heap_setCell _ _ _ _ hne, Below.heap_setCell _ _ _ _ hne]
    have B3 : ∀ u t, Below w.heap.size w ((w2.setCell ⟨w.heap.size + 1, 0, none⟩ u).setCell ⟨w.heap.size + 1, 1, none⟩ t) := fun u t => (B2.setCell (by show w.heap.size ≤ w.heap.size + 1; omega) _).setCell (by show w.heap.size ≤ w.heap.size + 1; omega) _
    have hld : ∀ u t, ((w2.setCell ⟨w.heap.size + 1, 0, none⟩ u).setCell ⟨w.heap.size + 1, 1, none⟩ t).heap[w.heap.size + 1]? = some (.cells #[u, t] 35 (0, 0)) := fun u t => by
      rw [setCell_eq_setRow w2 _ 0 _ _ _ _ h2, setCell_eq_setRow _ _ 1 _ _ _ _ (setRow_heap _ _ _ _ _ _ h2), setRow_heap _ _ _ _ _ _ (setRow_heap _ _ _ _ _ _ h2)]; simp
    clear M Ow hxy h2 B2
    go_wp2
    exact bodyPost_ret (by rw [results_cell_tmp rfl]; simp [asAddr, run_loadVar_row _ _ _ 35 _ _ _ (hld _ _) Try.underlying35 rfl (by kernel_rfl)]) rfl ⟨a', c', rfl, Ow2 _ _, B3 _ _⟩

end Go.Proofs.Ytpjfhfbjdcgbjab
