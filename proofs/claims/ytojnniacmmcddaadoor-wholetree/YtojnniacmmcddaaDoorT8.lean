/-
  Contracts: Put whole; slices.Clone of rows, same.
-/
import Derived.Test.YtojnniacmmcddaaDoorT7
import Derived.Lib.SliceRun
namespace Go.Proofs.YtojnniacmmcddaaDoor
open Go.RowKit
open Go.Lib hiding intOf
set_option linter.unusedVariables false
set_option linter.unusedSimpArgs false

theorem put_w (ad : Option Addr) (cap : Nat) (nx : Int) (L : List Rw) (r : Rw) (w : World) (hs : Srt L) (hr : Rs w ad L) (hl : L.length ≤ 1000000) (hcap : L.length ≤ cap) (hnil : ad = none → cap = 0) (hp : ∀ r ∈ L, r.p.length ≤ 4611686018427387903) (hsl : r.p.length ≤ 4611686018427387903) :
    Calls Tryd.prog 31 #[.agg #[.slice ad L.length cap, .int .i64 nx], .agg r.cs.toArray] w fun e w' => ∃ gd c, e = .returned (.agg #[.slice (some ⟨gd, 0, none⟩) (putL L r).length c, .int .i64 nx]) ∧ Rs w' (some ⟨gd, 0, none⟩) (putL L r) ∧ w.heap.size ≤ gd ∧ (putL L r).length ≤ c ∧ Below w.heap.size w w' :=
  put_core ad cap L.length nx r w (putL L r) fun W hb => lay_w ad cap nx L r W hs (hr.below hb) hl hcap hnil hp hsl

set_option maxHeartbeats 1000000 in
theorem clone_nil (c : Nat) (w : World) :
    Calls Tryd.prog 50 #[.slice none 0 c] w fun e w' => e = .returned (.slice none 0 0) ∧ w' = w := by
  have hq := fun W => Lib.run_eql_slice_nil (P := Tryd.prog) W 24 40 none 0 c 0 0 Tryd.underlying24
  go_enter Tryd.func50, Tryd.ntmps50
  go_wp2_with fail
  go_ret
  exact ⟨rfl, rfl⟩

set_option maxRecDepth 20000 in
set_option maxHeartbeats 1000000 in
theorem clone_some (a : Addr) (c : Nat) (L : List Rw) (w : World) (hr : Rs w (some a) L) (hl : L.length ≤ 1000000) :
    Calls Tryd.prog 50 #[.slice (some a) L.length c] w fun e w' => ∃ gd c', e = .returned (.slice (some ⟨gd, 0, none⟩) L.length c') ∧ Rs w' (some ⟨gd, 0, none⟩) L ∧ w.heap.size ≤ gd ∧ L.length ≤ c' ∧ Below w.heap.size w w' := by
  have hq := fun W => Lib.run_eql_slice_nil (P := Tryd.prog) W 24 40 (some a) L.length c 0 0 Tryd.underlying24
  have HR : Hid (Rs w (some a) L) := hr
  have O0 : Hid (Ow (w.alloc (.cells #[] 40)) w.heap.size (.slice (some ⟨w.heap.size, 0, none⟩) 0 0) []) := ⟨rfl, .inr ⟨w.heap.size, 0, #[], rfl, Nat.le_refl _, heap_alloc_new w _, Nat.le_refl _, by unfold maxLen; omega, rfl, rfl⟩⟩
  have hl2 : Hid (0 + L.length ≤ 3000000) := (by show _ ≤ _; omega)
  have hb := below_box w (.cells #[] 40)
  clear hr
  generalize hn : L.length = n at *
  have HN : Hid (L.length = n) := hn
  clear hn
  go_enter Tryd.func50, Tryd.ntmps50
  go_wp2_with (at_builtin; refine wpList_rows rfl _ _ rfl w.heap.size w.heap.size 0 0 [] rfl rfl O0.out (by rw [size_box]; omega) (some a) n c L rfl HN.out (HR.out.below hb) (fun h => by cases h) hl2.out ?_; intro g1 e1 v1 O1 b1; simp only [List.nil_append, Nat.zero_add] at O1 ⊢)
  go_ret
  have hge : w.heap.size ≤ g1 ∧ n ≤ e1 := by
    rcases O1.2 with ⟨q1, _⟩ | ⟨g', cp, cur, q1, q2, q3, q4, _⟩
    · cases q1
    · simp at q1
      have := HN.out
      omega
  exact ⟨g1, e1, rfl, (Ow.rs O1).2, hge.1, hge.2, hb.trans b1⟩

end Go.Proofs.YtojnniacmmcddaaDoor
