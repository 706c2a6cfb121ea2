/-
  Contracts: Get.
-/
import Derived.Test.YtpgiibpalmhhlaaGreatDoorMT
namespace Go.Proofs.YtpgiibpalmhhlaaGreatDoor
open Go.RowKit
open Go.Lib hiding intOf
set_option linter.unusedVariables false
set_option linter.unusedSimpArgs false

set_option maxRecDepth 20000 in
set_option maxHeartbeats 2000000 in
theorem get_w (ad : Option Addr) (cap : Nat) (nx : Int) (L : List Rw) (s : List UInt8) (w : World) (hs : Srt L) (hr : Rs w ad L) (hl : L.length ≤ 1000000) (hp : ∀ r ∈ L, r.p.length ≤ 4611686018427387903) (hsl : s.length ≤ 4611686018427387903) :
    Calls Tryz.prog 20 #[.agg #[.slice ad L.length cap, .int .i64 nx], .string (bs s)] w fun e w' => e = .returned (.tuple #[.agg (atR L s).cs.toArray, .bool (fd L s)]) ∧ Below w.heap.size w w' := by
  have KA : Hid (∀ W, Below w.heap.size w W → Calls Tryz.prog 39 #[.agg #[.slice ad L.length cap, .int .i64 nx], .string (bs s)] W fun e w' => e = .returned (.tuple #[.agg (atR L s).cs.toArray, .bool (fd L s)]) ∧ Below W.heap.size W w') := fun W hb => at_w ad cap nx L s W hs (hr.below hb) hl hp hsl
  have KO : Hid (∀ W, Calls Tryz.prog 40 #[.agg (atR L s).cs.toArray] W fun e w' => e = .returned (.agg (atR L s).cs.toArray) ∧ Below W.heap.size W w') := fun W => own_w (atR L s) W
  generalize fd L s = f at *
  generalize atR L s = r at *
  have H0 := Two.mk0 w #[.slice ad L.length cap, .int .i64 nx] #[.string ⟨#[]⟩, .int .i64 0, .int .i64 0, .int .i64 0, .int .i64 0, .int .i64 0, .int .i64 0, .string ⟨#[]⟩, .string ⟨#[]⟩, .string ⟨#[]⟩, .slice none 0 0, .int .i64 0, .bool false] 26 43
  have hone : Hid (r.cs.toArray.all (·.oneCell') = true) := all_one (cs_one r)
  have si : Hid ((Tryz.prog.info? 43).map (·.size) = some r.cs.toArray.size) := (by show _ = _; rw [List.size_toArray, Rw.cs_length]; kernel_rfl)
  have sj : Hid ((#[.string ⟨#[]⟩, .int .i64 0, .int .i64 0, .int .i64 0, .int .i64 0, .int .i64 0, .int .i64 0, .string ⟨#[]⟩, .string ⟨#[]⟩, .string ⟨#[]⟩, .slice none 0 0, .int .i64 0, .bool false] : Array Value).size = r.cs.toArray.size) := rfl
  generalize r.cs.toArray = C at *
  generalize L.length = n at *
  clear hs hr hl hp hsl
  go_enter Tryz.func20, Tryz.ntmps20
  go_wp2_with (first
    | (go_at_call 39; refine (KA.out _ H0.2.2.1).mono ?_; rintro e w2 ⟨rfl, b2⟩; have H2 : Hid (Two w w2 _ _ _ _) := H0.next b2; clear b2)
    | (go_at_call 40; refine (KO.out _).mono ?_; rintro e w4 ⟨rfl, b4⟩; have H4 : Hid (Two w w4 _ _ _ _) := (Two.next H2.out (below_setRow (below_box w2 _) (Nat.le_refl _) _)).next b4; clear b4)
    | (refine wpList_load_row rfl 43 _ rfl w2.heap.size rfl 43 C _ _ (setRow_heap _ _ _ C _ _ (heap_alloc_new w2 _)) Tryz.underlying43 rfl si.out ?_)
    | (refine wpList_store_row rfl 43 _ _ rfl w2.heap.size C rfl rfl 43 _ (heap_alloc_new w2 _) si.out sj.out hone.out ?_)
    | (refine wpList_store_row rfl 43 _ _ rfl (w.heap.size + 1) C rfl rfl 43 _ H4.out.2.1 si.out sj.out hone.out ?_))
  have hld := run_loadVar_row _ _ _ 43 _ _ _ (setRow_heap _ _ _ C _ _ H4.out.2.1) Tryz.underlying43 rfl si.out
  exact bodyPost_ret (by rw [results_cell_tmp rfl]; simp [asAddr, hld]) rfl ⟨rfl, below_setRow H4.out.2.2.1 (by omega) _⟩

end Go.Proofs.YtpgiibpalmhhlaaGreatDoor
