/-
  Contracts: at, ownContent, own, isDir.
-/
import Derived.Test.YtojnniacmmcddaaDoorT3
import Derived.Laws.Tables
import Derived.Laws.Rows
import Derived.Laws.CopyOwn
import Derived.Deep.RegionHeld3
namespace Go.Proofs.YtojnniacmmcddaaDoor
open Go.RowKit
open Go.Lib hiding intOf
set_option linter.unusedVariables false
set_option linter.unusedSimpArgs false

def zr : Rw := ⟨[], 0, 0, 0, 0, false⟩
/-- what stands at a path, or the zero row -/
def atR (L : List Rw) (s : List UInt8) : Rw := if fd L s then (L[ix L s]?).getD zr else zr

theorem fd_some {L : List Rw} {s : List UInt8} (h : fd L s = true) : ∃ r, L[ix L s]? = some r ∧ r.p = s := by
  unfold fd at h
  cases hr : L[ix L s]? with
  | none => rw [hr] at h; cases h
  | some r => rw [hr] at h; exact ⟨r, rfl, (cmpL_zero _ _).1 (of_decide_eq_true h)⟩

theorem kept_last {w w1 : World} {C : Array Value} {t : TypeId} (h : Below (w.alloc (.cells C t)).heap.size (w.alloc (.cells C t)) w1) : w1.heap[w.heap.size]? = some (.cells C t (0, 0)) := by
  rw [h.block _ (by rw [size_box]; exact Nat.lt_succ_self _)]
  exact heap_alloc_new _ _
theorem kept_first {w w1 : World} {C : Array Value} {t : TypeId} {o : Obj} (h : Below ((w.alloc (.cells C t)).alloc o).heap.size ((w.alloc (.cells C t)).alloc o) w1) : w1.heap[w.heap.size]? = some (.cells C t (0, 0)) := by
  rw [h.block _ (by rw [size_box, size_box]; show w.heap.size < _; omega)]
  rw [Below.heap_alloc _ _ _ (by rw [size_box]; omega)]
  exact heap_alloc_new _ _
theorem kept_second {w w1 : World} {C : Array Value} {t : TypeId} {o : Obj} (h : Below ((w.alloc o).alloc (.cells C t)).heap.size ((w.alloc o).alloc (.cells C t)) w1) : w1.heap[w.heap.size + 1]? = some (.cells C t (0, 0)) := by
  have := kept_last h
  rwa [size_box] at this
theorem two_below {w w1 : World} {o p : Obj} (h : Below ((w.alloc o).alloc p).heap.size ((w.alloc o).alloc p) w1) : Below w.heap.size w w1 :=
  ((below_box w o).alloc (by rw [size_box]; omega) p).trans (h.mono (by rw [size_box, size_box]; omega))
theorem cells_of {w : World} {g : Nat} {C : Array Value} {t : TypeId} {fr : Nat × Nat} (h : w.heap[g]? = some (.cells C t fr)) (i : Nat) : w.cell? ⟨g, i, none⟩ = C[i]? := by
  unfold World.cell?
  simp [h]

theorem all_one {C : List Value} (h : ∀ v ∈ C, v.oneCell' = true) : C.toArray.all (·.oneCell') = true := by
  simp only [List.all_toArray, List.all_eq_true]; exact h

theorem isDir_w (r : Rw) (w : World) : Calls Tryd.prog 29 #[.agg r.cs.toArray] w fun e w' => e = .returned (.bool (decide (r.kind = 4))) ∧ Below w.heap.size w w' := by
  unfold Rw.cs
  go_enter Tryd.func29, Tryd.ntmps29
  go_wp2_with fail
  go_ret
  exact ⟨rfl, below_box _ _⟩

set_option maxRecDepth 20000 in
set_option maxHeartbeats 2000000 in
theorem at_w (ad : Option Addr) (cap : Nat) (nx : Int) (L : List Rw) (s : List UInt8) (w : World) (hs : Srt L) (hr : Rs w ad L) (hl : L.length ≤ 1000000) (hp : ∀ r ∈ L, r.p.length ≤ 4611686018427387903) (hsl : s.length ≤ 4611686018427387903) :
    Calls Tryd.prog 28 #[.agg #[.slice ad L.length cap, .int .i64 nx], .string (bs s)] w fun e w' => e = .returned (.tuple #[.agg (atR L s).cs.toArray, .bool (fd L s)]) ∧ Below w.heap.size w w' := by
  have KQ : Hid (∀ W, Below w.heap.size w W → Calls Tryd.prog 51 #[.agg #[.slice ad L.length cap, .int .i64 nx], .string (bs s)] W fun e w' => e = .returned (.tuple #[.int .i64 (ix L s : Int), .bool (fd L s)]) ∧ Below W.heap.size W w') := fun W hb => find_w ad cap nx L s W hs (hr.below hb) hl hp hsl
  have hb0 : ∀ o p, Below w.heap.size w ((w.alloc o).alloc p) := fun o p => (below_box w o).alloc (by rw [size_box]; omega) p
  cases hf : fd L s with
  | false =>
    rw [hf] at KQ
    have ha : atR L s = zr := by unfold atR; rw [hf]; rfl
    rw [ha]
    have hb1 : bs [] = ⟨#[]⟩ := rfl
    unfold zr Rw.cs
    simp only [hb1]
    go_enter Tryd.func28, Tryd.ntmps28
    go_wp2_with (first
      | (go_at_call 51; refine (KQ.out _ (hb0 _ _)).mono ?_; rintro e w1 ⟨rfl, b1⟩; have c2 : Hid _ := kept_second b1; have c3 : Hid _ := two_below b1; clear b1)
      | (refine wpList_store_row rfl 40 _ _ rfl _ _ rfl rfl 40 _ c2.out (by kernel_rfl) rfl (by simp [Value.oneCell']) ?_))
    have hld := run_loadVar_row _ _ _ 40 _ _ _ (setRow_heap _ _ _ #[.string ⟨#[]⟩, .int .i64 0, .int .i64 0, .int .i64 0, .int .i64 0, .int .i64 0, .int .i64 0, .string ⟨#[]⟩, .string ⟨#[]⟩, .string ⟨#[]⟩, .slice none 0 0, .int .i64 0, .bool false] _ _ c2.out) Tryd.underlying40 rfl (by kernel_rfl)
    exact bodyPost_ret (by rw [results_cell_tmp rfl]; simp [asAddr, hld]) rfl ⟨rfl, below_setRow c3.out (by omega) _⟩
  | true =>
    rw [hf] at KQ
    obtain ⟨r, hr1, hr2⟩ := fd_some hf
    have ha : atR L s = r := by unfold atR; rw [hf, hr1]; rfl
    rw [ha]
    obtain ⟨b, o, rfl, hb1, hb2⟩ := hr.at hr1
    have HB : Hid (∀ W, Below w.heap.size w W → W.rangeAt b (o + ix L s * 13) r.cs) := fun W hW => range_below hb2 hW hb1
    have hcs : Hid (r.cs.length = 13) := rfl
    have hone : Hid (r.cs.toArray.all (·.oneCell') = true) := all_one (cs_one r)
    have si : Hid ((Tryd.prog.info? 40).map (·.size) = some r.cs.toArray.size) := (by show _ = _; rw [List.size_toArray, Rw.cs_length]; kernel_rfl)
    have sj : Hid ((#[.string ⟨#[]⟩, .int .i64 0, .int .i64 0, .int .i64 0, .int .i64 0, .int .i64 0, .int .i64 0, .string ⟨#[]⟩, .string ⟨#[]⟩, .string ⟨#[]⟩, .slice none 0 0, .int .i64 0, .bool false] : Array Value).size = r.cs.toArray.size) := rfl
    have hlt : ix L s < L.length := (List.getElem?_eq_some_iff.1 hr1).1
    generalize L.length = n at *
    generalize ix L s = i at *
    generalize r.cs = C at *
    have h1 : (0 : Int) ≤ (i : Int) := by omega
    have h2 : (i : Int) < (n : Int) := by omega
    clear hs hr hl hp hsl hf ha hr1 hr2 hb2 hlt
    go_enter Tryd.func28, Tryd.ntmps28
    go_wp2_with (first
      | (go_at_call 51; refine (KQ.out _ (hb0 _ _)).mono ?_; rintro e w1 ⟨rfl, b1⟩; have c1 := cells_of (kept_first b1); have c2 : Hid _ := kept_second b1; have c3 : Hid (Below w.heap.size w w1) := two_below b1; clear b1)
      | (refine wpList_load_mid rfl 40 _ rfl b (o + i * 13) rfl C _ (HB.out _ c3.out) Tryd.underlying40 rfl (by rw [hcs.out]; kernel_rfl) ?_)
      | (refine wpList_store_row rfl 40 _ _ rfl _ C.toArray rfl rfl 40 _ c2.out si.out sj.out hone.out ?_))
    have hld := run_loadVar_row _ _ _ 40 _ _ _ (setRow_heap _ _ _ C.toArray _ _ c2.out) Tryd.underlying40 rfl si.out
    exact bodyPost_ret (by rw [results_cell_tmp rfl]; simp [asAddr, hld]) rfl ⟨rfl, below_setRow c3.out (by omega) _⟩

/-- what two boxes keep -/
def Two (w W : World) (C D : Array Value) (t u : TypeId) : Prop := W.heap[w.heap.size]? = some (.cells C t (0, 0)) ∧ W.heap[w.heap.size + 1]? = some (.cells D u (0, 0)) ∧ Below w.heap.size w W ∧ w.heap.size + 2 ≤ W.heap.size
theorem Two.mk0 (w : World) (C D : Array Value) (t u : TypeId) : Two w ((w.alloc (.cells C t)).alloc (.cells D u)) C D t u := by
  have h := Below.refl ((w.alloc (.cells C t)).alloc (.cells D u)).heap.size ((w.alloc (.cells C t)).alloc (.cells D u))
  exact ⟨kept_first h, kept_second h, two_below h, by rw [size_box, size_box]; omega⟩
theorem Two.next {w W W' : World} {C D : Array Value} {t u : TypeId} (h : Two w W C D t u) (b : Below W.heap.size W W') : Two w W' C D t u := by
  have := h.2.2.2
  exact ⟨by rw [b.block _ (by omega)]; exact h.1, by rw [b.block _ (by omega)]; exact h.2.1, h.2.2.1.trans (b.mono h.2.2.1.size), Nat.le_trans h.2.2.2 b.size⟩
theorem Two.drew {w W : World} {C D : Array Value} {t u : TypeId} (h : Two w W C D t u) : Two w W.drew C D t u := ⟨h.1, h.2.1, h.2.2.1.drew, h.2.2.2⟩

theorem two_new' (w : World) (A B : Obj) : ((w.alloc A).alloc B).drew.heap[w.heap.size + 1]? = some B := by
  have := heap_alloc_new (w.alloc A) B
  rwa [size_box] at this

set_option maxHeartbeats 1000000 in
theorem ownContent_w (z : Int) (w : World) :
    Calls Tryd.prog 49 #[.agg #[.slice none 0 0, .int .i64 z]] w fun e w' => e = .returned (.agg #[.slice none 0 0, .int .i64 z]) ∧ Below w.heap.size w w' := by
  have KC : Hid (∀ W, Calls Tryd.prog 65 #[.slice none 0 0] W fun e w' => e = .returned (.slice none 0 0) ∧ w' = W) := fun W => Tryd.slices_Clone_int_nil 0 0 W
  go_enter Tryd.func49, Tryd.ntmps49
  go_wp2_with fail
  go_region_with (go_at_call 65; refine (KC.out _).mono ?_; rintro e w' ⟨rfl, hw⟩; rw [hw])
  all_goals
    go_wp2_with fail
    exact bodyPost_ret (results_cell_row rfl _ _ (w.heap.size + 1) 31 _ (0, 0) _ rfl (two_new' _ _ _) Tryd.underlying31 rfl (by kernel_rfl)) rfl ⟨rfl, ((below_box w _).alloc (by rw [size_box]; omega) _).drew⟩

end Go.Proofs.YtojnniacmmcddaaDoor
