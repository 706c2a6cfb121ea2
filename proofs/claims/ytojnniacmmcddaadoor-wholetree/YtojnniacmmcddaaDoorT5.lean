/-
  Contracts: own, lay, Put.
-/
import Derived.Test.YtojnniacmmcddaaDoorT4
import Derived.Laws.CopyRow
namespace Go.Proofs.YtojnniacmmcddaaDoor
open Go.RowKit
open Go.Lib hiding intOf
set_option linter.unusedVariables false
set_option linter.unusedSimpArgs false

theorem setCell_same {w : World} {g i : Nat} {cur : Array Value} {t : TypeId} {v : Value} (h : w.heap[g]? = some (.cells cur t (0, 0))) (hv : cur[i]? = some v) : w.setCell ⟨g, i, none⟩ v = w := by
  rw [setCell_eq_setRow w g i cur t (0, 0) v h]
  have e : cur.setIfInBounds i v = cur := by
    apply Array.ext
    · simp
    · intro j h1 h2
      rw [Array.getElem_setIfInBounds (by simpa using h1)]
      split
      · next e => subst e; rw [Array.getElem?_eq_getElem h2] at hv; exact (Option.some.inj hv).symm
      · rfl
  rw [e]
  exact setRow_self w g cur t (0, 0) h

theorem froz_of {w : World} {g : Nat} {cur : Array Value} {t : TypeId} (h : w.heap[g]? = some (.cells cur t (0, 0))) (i : Nat) : w.frozen? ⟨g, i, none⟩ = false := frozen_of_row w g i cur t h

set_option maxRecDepth 20000 in
set_option maxHeartbeats 1000000 in
theorem own_w (r : Rw) (w : World) : Calls Tryd.prog 39 #[.agg r.cs.toArray] w fun e w' => e = .returned (.agg r.cs.toArray) ∧ Below w.heap.size w w' := by
  have KC : Hid (∀ W, Calls Tryd.prog 49 #[.agg #[.slice none 0 0, .int .i64 r.size]] W fun e w' => e = .returned (.agg #[.slice none 0 0, .int .i64 r.size]) ∧ Below W.heap.size W w') := fun W => ownContent_w r.size W
  have si : Hid ((Tryd.prog.info? 40).map (·.size) = some (#[.string (bs r.p), .int .i64 r.id, .int .i64 r.kind, .int .i64 r.mode, .int .i64 0, .int .i64 0, .int .i64 0, .string ⟨#[]⟩, .string ⟨#[]⟩, .string ⟨#[]⟩, .slice none 0 0, .int .i64 r.size, .bool r.made] : Array Value).size) := (by show _ = _; kernel_rfl)
  have sj : Hid ((#[.string ⟨#[]⟩, .int .i64 0, .int .i64 0, .int .i64 0, .int .i64 0, .int .i64 0, .int .i64 0, .string ⟨#[]⟩, .string ⟨#[]⟩, .string ⟨#[]⟩, .slice none 0 0, .int .i64 0, .bool false] : Array Value).size = (#[.string (bs r.p), .int .i64 r.id, .int .i64 r.kind, .int .i64 r.mode, .int .i64 0, .int .i64 0, .int .i64 0, .string ⟨#[]⟩, .string ⟨#[]⟩, .string ⟨#[]⟩, .slice none 0 0, .int .i64 r.size, .bool r.made] : Array Value).size) := rfl
  have sk : Hid ((#[.string (bs r.p), .int .i64 r.id, .int .i64 r.kind, .int .i64 r.mode, .int .i64 0, .int .i64 0, .int .i64 0, .string ⟨#[]⟩, .string ⟨#[]⟩, .string ⟨#[]⟩, .slice none 0 0, .int .i64 r.size, .bool r.made] : Array Value).all (·.oneCell') = true) := all_one (cs_one r)
  unfold Rw.cs
  go_enter Tryd.func39, Tryd.ntmps39
  go_upto_region 2 with (go_at_call 49; refine (KC.out _).mono ?_; rintro e w1 ⟨rfl, b1⟩; have H1 : Hid _ := kept_first b1; have c1 := cells_of H1.out; have f1 := froz_of H1.out; have s1 : w1.setCell ⟨w.heap.size, 10, none⟩ (.slice none 0 0) = w1 := setCell_same H1.out rfl; have s2 : w1.setCell ⟨w.heap.size, 11, none⟩ (.int .i64 r.size) = w1 := setCell_same H1.out rfl; have c2 : Hid _ := kept_second b1; have c3 : Hid (Below w.heap.size w w1) := two_below b1; clear b1)
  (try rw [s1]); (try rw [s2])
  clear c1 f1 s1 s2
  go_wp2_with (first
    | (refine wpList_load_row rfl 40 _ rfl w.heap.size rfl 40 #[.string (bs r.p), .int .i64 r.id, .int .i64 r.kind, .int .i64 r.mode, .int .i64 0, .int .i64 0, .int .i64 0, .string ⟨#[]⟩, .string ⟨#[]⟩, .string ⟨#[]⟩, .slice none 0 0, .int .i64 r.size, .bool r.made] _ _ H1.out Tryd.underlying40 rfl si.out ?_)
    | (refine wpList_store_row rfl 40 _ _ rfl (w.heap.size + 1) #[.string (bs r.p), .int .i64 r.id, .int .i64 r.kind, .int .i64 r.mode, .int .i64 0, .int .i64 0, .int .i64 0, .string ⟨#[]⟩, .string ⟨#[]⟩, .string ⟨#[]⟩, .slice none 0 0, .int .i64 r.size, .bool r.made] rfl rfl 40 _ c2.out si.out sj.out sk.out ?_))
  have hld := run_loadVar_row _ _ _ 40 _ _ _ (setRow_heap _ _ _ #[.string (bs r.p), .int .i64 r.id, .int .i64 r.kind, .int .i64 r.mode, .int .i64 0, .int .i64 0, .int .i64 0, .string ⟨#[]⟩, .string ⟨#[]⟩, .string ⟨#[]⟩, .slice none 0 0, .int .i64 r.size, .bool r.made] _ _ c2.out) Tryd.underlying40 rfl si.out
  exact bodyPost_ret (results_cell_row rfl _ _ (w.heap.size + 1) 40 _ (0, 0) _ rfl (setRow_heap _ _ _ #[.string (bs r.p), .int .i64 r.id, .int .i64 r.kind, .int .i64 r.mode, .int .i64 0, .int .i64 0, .int .i64 0, .string ⟨#[]⟩, .string ⟨#[]⟩, .string ⟨#[]⟩, .slice none 0 0, .int .i64 r.size, .bool r.made] _ _ c2.out) Tryd.underlying40 rfl si.out) rfl ⟨rfl, below_setRow c3.out (by omega) _⟩

end Go.Proofs.YtojnniacmmcddaaDoor
