/-
  EntryKinds' walks: what isn't asked, and types of no kind.
-/
import Derived.Test.YtjnmmkohmfhnlaaDoorOpen
import Derived.Laws.BitsLemmas
import Derived.ProofKit
import Derived.Test.YtjnmmkohmfhnlaaDoorEk0
namespace Go.Proofs.YtjnmmkohmfhnlaaDoor
open Go.ChangeShapes Go.WideShapes Go.RowKit
set_option linter.unusedVariables false
set_option linter.unusedSimpArgs false

set_option maxHeartbeats 4000000 in
theorem ek_out (form : Int) (name link0 prefx user group : ByteArray) (typ mode uid gid size mtime : Int) (link : ByteArray) (w : World) (hv : Vs w) (hm : link.size ≤ 9223372036854775807) (hc : 500 < link.size ∨ size < 0 ∨ uid < 0 ∨ gid < 0) :
    Calls Tryd.prog 7 #[.agg #[.int .i64 form, .string name, .string link0, .string prefx, .string user, .string group, .int .u8 typ, .int .i64 mode, .int .i64 uid, .int .i64 gid, .int .i64 size, .int .i64 mtime], .string link] w fun e w' => e = .returned (.bool true) ∧ Below w.heap.size w w' := by
  have b1 : Below w.heap.size w (w.alloc (.cells #[.int .i64 form, .string name, .string link0, .string prefx, .string user, .string group, .int .u8 typ, .int .i64 mode, .int .i64 uid, .int .i64 gid, .int .i64 size, .int .i64 mtime] 23)) := (Below.refl _ w).alloc (Nat.le_refl _) _
  have q := makes_w (w.alloc (.cells #[.int .i64 form, .string name, .string link0, .string prefx, .string user, .string group, .int .u8 typ, .int .i64 mode, .int .i64 uid, .int .i64 gid, .int .i64 size, .int .i64 mtime] 23)) (hv.below b1)
  have HB1 : Hid (Below w.heap.size w (w.alloc (.cells #[.int .i64 form, .string name, .string link0, .string prefx, .string user, .string group, .int .u8 typ, .int .i64 mode, .int .i64 uid, .int .i64 gid, .int .i64 size, .int .i64 mtime] 23))) := b1
  have HK : Hid (∀ W1, Below (w.alloc (.cells #[.int .i64 form, .string name, .string link0, .string prefx, .string user, .string group, .int .u8 typ, .int .i64 mode, .int .i64 uid, .int .i64 gid, .int .i64 size, .int .i64 mtime] 23)).heap.size (w.alloc (.cells #[.int .i64 form, .string name, .string link0, .string prefx, .string user, .string group, .int .u8 typ, .int .i64 mode, .int .i64 uid, .int .i64 gid, .int .i64 size, .int .i64 mtime] 23)) W1 → ∀ j v, (#[.int .i64 form, .string name, .string link0, .string prefx, .string user, .string group, .int .u8 typ, .int .i64 mode, .int .i64 uid, .int .i64 gid, .int .i64 size, .int .i64 mtime] : Array Value)[j]? = some v → W1.cell? ⟨w.heap.size, j, none⟩ = some v) := fun W1 hb j v h => blk _ W1 hb _ 23 w rfl j v h
  clear b1
  by_cases c1 : 500 < link.size
  · have c1' : (500 : Int) < (link.size : Int) := by omega
    go_enter Tryd.func7, Tryd.ntmps7
    go_wp2_with (go_at_call 9; refine q.mono ?_; rintro e w1 ⟨rfl, hb⟩; have k0 := HK.out _ hb 0 _ rfl; have k1 := HK.out _ hb 1 _ rfl; have k2 := HK.out _ hb 2 _ rfl; have k3 := HK.out _ hb 3 _ rfl; have k4 := HK.out _ hb 4 _ rfl; have k5 := HK.out _ hb 5 _ rfl; have k6 := HK.out _ hb 6 _ rfl; have k7 := HK.out _ hb 7 _ rfl; have k8 := HK.out _ hb 8 _ rfl; have k9 := HK.out _ hb 9 _ rfl; have k10 := HK.out _ hb 10 _ rfl; have k11 := HK.out _ hb 11 _ rfl; have HB2 : Hid (Below w.heap.size w w1) := HB1.out.trans (hb.mono HB1.out.size))
    go_ret
    exact ⟨rfl, HB2.out⟩
  have c1' : ¬ (500 : Int) < (link.size : Int) := by omega
  by_cases c2 : size < 0
  · go_enter Tryd.func7, Tryd.ntmps7
    go_wp2_with (go_at_call 9; refine q.mono ?_; rintro e w1 ⟨rfl, hb⟩; have k0 := HK.out _ hb 0 _ rfl; have k1 := HK.out _ hb 1 _ rfl; have k2 := HK.out _ hb 2 _ rfl; have k3 := HK.out _ hb 3 _ rfl; have k4 := HK.out _ hb 4 _ rfl; have k5 := HK.out _ hb 5 _ rfl; have k6 := HK.out _ hb 6 _ rfl; have k7 := HK.out _ hb 7 _ rfl; have k8 := HK.out _ hb 8 _ rfl; have k9 := HK.out _ hb 9 _ rfl; have k10 := HK.out _ hb 10 _ rfl; have k11 := HK.out _ hb 11 _ rfl; have HB2 : Hid (Below w.heap.size w w1) := HB1.out.trans (hb.mono HB1.out.size))
    go_ret
    exact ⟨rfl, HB2.out⟩
  by_cases c3 : uid < 0
  · go_enter Tryd.func7, Tryd.ntmps7
    go_wp2_with (go_at_call 9; refine q.mono ?_; rintro e w1 ⟨rfl, hb⟩; have k0 := HK.out _ hb 0 _ rfl; have k1 := HK.out _ hb 1 _ rfl; have k2 := HK.out _ hb 2 _ rfl; have k3 := HK.out _ hb 3 _ rfl; have k4 := HK.out _ hb 4 _ rfl; have k5 := HK.out _ hb 5 _ rfl; have k6 := HK.out _ hb 6 _ rfl; have k7 := HK.out _ hb 7 _ rfl; have k8 := HK.out _ hb 8 _ rfl; have k9 := HK.out _ hb 9 _ rfl; have k10 := HK.out _ hb 10 _ rfl; have k11 := HK.out _ hb 11 _ rfl; have HB2 : Hid (Below w.heap.size w w1) := HB1.out.trans (hb.mono HB1.out.size))
    go_ret
    exact ⟨rfl, HB2.out⟩
  have c4 : gid < 0 := by omega
  go_enter Tryd.func7, Tryd.ntmps7
  go_wp2_with (go_at_call 9; refine q.mono ?_; rintro e w1 ⟨rfl, hb⟩; have k0 := HK.out _ hb 0 _ rfl; have k1 := HK.out _ hb 1 _ rfl; have k2 := HK.out _ hb 2 _ rfl; have k3 := HK.out _ hb 3 _ rfl; have k4 := HK.out _ hb 4 _ rfl; have k5 := HK.out _ hb 5 _ rfl; have k6 := HK.out _ hb 6 _ rfl; have k7 := HK.out _ hb 7 _ rfl; have k8 := HK.out _ hb 8 _ rfl; have k9 := HK.out _ hb 9 _ rfl; have k10 := HK.out _ hb 10 _ rfl; have k11 := HK.out _ hb 11 _ rfl; have HB2 : Hid (Below w.heap.size w w1) := HB1.out.trans (hb.mono HB1.out.size))
  go_ret
  exact ⟨rfl, HB2.out⟩

set_option maxHeartbeats 4000000 in
theorem ek_none (form : Int) (name link0 prefx user group : ByteArray) (typ mode uid gid size mtime : Int) (link : ByteArray) (w : World) (hv : Vs w) (hl : link.size ≤ 500) (s0 : 0 ≤ size) (u0 : 0 ≤ uid) (g0 : 0 ≤ gid) (t0 : ¬ typ = 0) (t1 : ¬ typ = 48) (t2 : ¬ typ = 55) (t3 : ¬ typ = 49) (t4 : ¬ typ = 50) (t5 : ¬ typ = 53)
    (hC : ∀ W, Below w.heap.size w W → Calls Tryd.prog 10 #[.agg #[.int .i64 form, .string name, .string link0, .string prefx, .string user, .string group, .int .u8 typ, .int .i64 mode, .int .i64 uid, .int .i64 gid, .int .i64 size, .int .i64 mtime], .agg #[.slice none 0 0, .slice none 0 0, .string ⟨#[]⟩, .string link]] W fun ev w' => ev = .returned (.tuple #[.agg #[.string ⟨#[]⟩, .string ⟨#[]⟩, .int .i64 0, .int .i64 0, .int .i64 0, .int .i64 0, .int .i64 0, .int .i64 0, .string ⟨#[]⟩, .string ⟨#[]⟩], .int .i64 80]) ∧ Below W.heap.size W w') :
    Calls Tryd.prog 7 #[.agg #[.int .i64 form, .string name, .string link0, .string prefx, .string user, .string group, .int .u8 typ, .int .i64 mode, .int .i64 uid, .int .i64 gid, .int .i64 size, .int .i64 mtime], .string link] w fun e w' => e = .returned (.bool true) ∧ Below w.heap.size w w' := by
  have b1 : Below w.heap.size w (w.alloc (.cells #[.int .i64 form, .string name, .string link0, .string prefx, .string user, .string group, .int .u8 typ, .int .i64 mode, .int .i64 uid, .int .i64 gid, .int .i64 size, .int .i64 mtime] 23)) := (Below.refl _ w).alloc (Nat.le_refl _) _
  have q := makes_w (w.alloc (.cells #[.int .i64 form, .string name, .string link0, .string prefx, .string user, .string group, .int .u8 typ, .int .i64 mode, .int .i64 uid, .int .i64 gid, .int .i64 size, .int .i64 mtime] 23)) (hv.below b1)
  have HB1 : Hid (Below w.heap.size w (w.alloc (.cells #[.int .i64 form, .string name, .string link0, .string prefx, .string user, .string group, .int .u8 typ, .int .i64 mode, .int .i64 uid, .int .i64 gid, .int .i64 size, .int .i64 mtime] 23))) := b1
  have HK : Hid (∀ W1, Below (w.alloc (.cells #[.int .i64 form, .string name, .string link0, .string prefx, .string user, .string group, .int .u8 typ, .int .i64 mode, .int .i64 uid, .int .i64 gid, .int .i64 size, .int .i64 mtime] 23)).heap.size (w.alloc (.cells #[.int .i64 form, .string name, .string link0, .string prefx, .string user, .string group, .int .u8 typ, .int .i64 mode, .int .i64 uid, .int .i64 gid, .int .i64 size, .int .i64 mtime] 23)) W1 → ∀ j v, (#[.int .i64 form, .string name, .string link0, .string prefx, .string user, .string group, .int .u8 typ, .int .i64 mode, .int .i64 uid, .int .i64 gid, .int .i64 size, .int .i64 mtime] : Array Value)[j]? = some v → W1.cell? ⟨w.heap.size, j, none⟩ = some v) := fun W1 hb j v h => blk _ W1 hb _ 23 w rfl j v h
  have HC : Hid (∀ W, Below w.heap.size w W → Calls Tryd.prog 10 #[.agg #[.int .i64 form, .string name, .string link0, .string prefx, .string user, .string group, .int .u8 typ, .int .i64 mode, .int .i64 uid, .int .i64 gid, .int .i64 size, .int .i64 mtime], .agg #[.slice none 0 0, .slice none 0 0, .string ⟨#[]⟩, .string link]] W fun ev w' => ev = .returned (.tuple #[.agg #[.string ⟨#[]⟩, .string ⟨#[]⟩, .int .i64 0, .int .i64 0, .int .i64 0, .int .i64 0, .int .i64 0, .int .i64 0, .string ⟨#[]⟩, .string ⟨#[]⟩], .int .i64 80]) ∧ Below W.heap.size W w') := hC
  have l1 : ¬ (500 : Int) < (link.size : Int) := by omega
  have l2 : ¬ size < 0 := by omega
  have l3 : ¬ uid < 0 := by omega
  have l4 : ¬ gid < 0 := by omega
  clear hC b1
  go_enter Tryd.func7, Tryd.ntmps7
  go_wp2_with (first | (go_at_call 9; refine q.mono ?_; rintro e w1 ⟨rfl, hb⟩; have k0 := HK.out _ hb 0 _ rfl; have k1 := HK.out _ hb 1 _ rfl; have k2 := HK.out _ hb 2 _ rfl; have k3 := HK.out _ hb 3 _ rfl; have k4 := HK.out _ hb 4 _ rfl; have k5 := HK.out _ hb 5 _ rfl; have k6 := HK.out _ hb 6 _ rfl; have k7 := HK.out _ hb 7 _ rfl; have k8 := HK.out _ hb 8 _ rfl; have k9 := HK.out _ hb 9 _ rfl; have k10 := HK.out _ hb 10 _ rfl; have k11 := HK.out _ hb 11 _ rfl; have HB2 : Hid (Below w.heap.size w w1) := HB1.out.trans (hb.mono HB1.out.size)) | (go_at_call 10; refine (HC.out _ HB2.out).mono ?_; rintro e w2 ⟨rfl, hb2⟩; have hk6 := cell_grow k6 hb2; have hlt6 := Lib.lt_of_cell hk6))
  all_goals go_ret
  all_goals exact ⟨by first | rfl | (simp; done) | (simp [*]; done), (HB2.out.trans (hb2.mono HB2.out.size)).alloc (Nat.le_trans HB2.out.size hb2.size) _⟩

end Go.Proofs.YtjnmmkohmfhnlaaDoor
