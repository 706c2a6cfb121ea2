/-
  The walk of WholeEntry.
-/
import Derived.Test.YtjnmmkohmfhnlabDoorWe2
import Derived.Test.YtjnmmkohmfhnlabDoorOpen
import Derived.Deep.RegionHeld3
import Derived.Deep.DeepCutAuto
namespace Go.Proofs.YtjnmmkohmfhnlabDoor
open Go.RowKit
set_option linter.unusedVariables false
set_option linter.unusedSimpArgs false

theorem ten10 {w : World} {N : Nat} {c0 c1 c2 c3 c4 c5 c6 c7 c8 c9 : Value} (h : w.heap[N]? = some (.cells #[c0, c1, c2, c3, c4, c5, c6, c7, c8, c9] 23 (0, 0))) :
    w.cell? ⟨N, 0, none⟩ = some c0 ∧ w.cell? ⟨N, 1, none⟩ = some c1 ∧ w.cell? ⟨N, 2, none⟩ = some c2 ∧ w.cell? ⟨N, 3, none⟩ = some c3 ∧ w.cell? ⟨N, 4, none⟩ = some c4 ∧ w.cell? ⟨N, 5, none⟩ = some c5 ∧ w.cell? ⟨N, 6, none⟩ = some c6 ∧ w.cell? ⟨N, 7, none⟩ = some c7 ∧ w.cell? ⟨N, 8, none⟩ = some c8 ∧ w.cell? ⟨N, 9, none⟩ = some c9 := by
  simp [World.cell?, h]

theorem twelve {w : World} {N : Nat} {c0 c1 c2 c3 c4 c5 c6 c7 c8 c9 c10 c11 : Value} (h : w.heap[N]? = some (.cells #[c0, c1, c2, c3, c4, c5, c6, c7, c8, c9, c10, c11] 25 (0, 0))) :
    w.cell? ⟨N, 0, none⟩ = some c0 ∧ w.cell? ⟨N, 1, none⟩ = some c1 ∧ w.cell? ⟨N, 2, none⟩ = some c2 ∧ w.cell? ⟨N, 3, none⟩ = some c3 ∧ w.cell? ⟨N, 4, none⟩ = some c4 ∧ w.cell? ⟨N, 5, none⟩ = some c5 ∧ w.cell? ⟨N, 6, none⟩ = some c6 ∧ w.cell? ⟨N, 7, none⟩ = some c7 ∧ w.cell? ⟨N, 8, none⟩ = some c8 ∧ w.cell? ⟨N, 9, none⟩ = some c9 ∧ w.cell? ⟨N, 10, none⟩ = some c10 ∧ w.cell? ⟨N, 11, none⟩ = some c11 := by
  simp [World.cell?, h]

theorem size_pos {p : ByteArray} (h : ¬ p.toList = []) : 1 ≤ p.size := by
  rcases Nat.eq_zero_or_pos p.size with h0 | h0
  · exact absurd (by rw [ByteArray.toList_eq]; exact List.eq_nil_of_length_eq_zero (by rw [Array.length_toList]; exact h0)) h
  · exact h0

theorem slash_iff (p : ByteArray) (h : 1 ≤ p.size) : slashB p = true ↔ (p[p.size - 1]'(by omega)).toNat = 47 := by
  unfold slashB
  rw [if_neg (by omega), decide_eq_true_iff]
  have e : endS p = ⟨#[p[p.size - 1]'(by omega)]⟩ := by
    unfold endS
    apply ByteArray.ext
    rw [ByteArray.data_extract]
    apply Array.ext
    · simp; have : p.data.size = p.size := rfl; omega
    · intro i h1 h2
      have h2' : i < 1 := h2
      obtain rfl : i = 0 := by omega
      simp
      rfl
  rw [e]
  constructor
  · intro h
    have h1 : (#[p[p.size - 1]'(by omega)] : Array UInt8) = #[47] := congrArg ByteArray.data h
    have h2 : p[p.size - 1]'(by omega) = 47 := by simpa using h1
    rw [h2]; rfl
  · intro h
    have h2 : p[p.size - 1]'(by omega) = 47 := UInt8.toNat_inj.1 h
    rw [h2]; rfl

theorem new_at (w : World) (o : Obj) : (w.alloc o).heap[w.heap.size]? = some o := heap_alloc_new w o

theorem heap_grow {w w' : World} (hb : Below w.heap.size w w') {g : Nat} {o : Obj} (h : w.heap[g]? = some o) : w'.heap[g]? = some o := (hb.block g (Array.getElem?_eq_some_iff.1 h).1).trans h

set_option maxRecDepth 100000 in
set_option maxHeartbeats 8000000 in
theorem walk_k0 (p l u g : ByteArray) (k m a b c d : Int) (hf : Int) (hn hl hp hu hg : ByteArray) (ht hm ha hb hs hc : Int) (w : World) (hv : Vs w) (fx : Hid (EnFit ⟨p, l, k, m, a, b, c, d, u, g⟩)) (fh : Hid (HdFit ⟨hf, hn, hl, hp, hu, hg, ht, hm, ha, hb, hs, hc⟩)) (hk : ty k = 0) :
    Calls Tryd.prog 3 #[.agg #[.string p, .string l, .int .i64 k, .int .i64 m, .int .i64 a, .int .i64 b, .int .i64 c, .int .i64 d, .string u, .string g], .agg #[.int .i64 hf, .string hn, .string hl, .string hp, .string hu, .string hg, .int .u8 ht, .int .i64 hm, .int .i64 ha, .int .i64 hb, .int .i64 hs, .int .i64 hc]] w fun e w' => e = .returned (.bool true) ∧ Below w.heap.size w w' := by
  have b1 : Below w.heap.size w ((w.alloc (.cells #[.string p, .string l, .int .i64 k, .int .i64 m, .int .i64 a, .int .i64 b, .int .i64 c, .int .i64 d, .string u, .string g] 23)).alloc (.cells #[.int .i64 hf, .string hn, .string hl, .string hp, .string hu, .string hg, .int .u8 ht, .int .i64 hm, .int .i64 ha, .int .i64 hb, .int .i64 hs, .int .i64 hc] 25)) := ((Below.refl _ w).alloc (Nat.le_refl _) _).alloc (by simp) _
  have e1 : ((w.alloc (.cells #[.string p, .string l, .int .i64 k, .int .i64 m, .int .i64 a, .int .i64 b, .int .i64 c, .int .i64 d, .string u, .string g] 23)).alloc (.cells #[.int .i64 hf, .string hn, .string hl, .string hp, .string hu, .string hg, .int .u8 ht, .int .i64 hm, .int .i64 ha, .int .i64 hb, .int .i64 hs, .int .i64 hc] 25)).heap[w.heap.size]? = some (.cells #[.string p, .string l, .int .i64 k, .int .i64 m, .int .i64 a, .int .i64 b, .int .i64 c, .int .i64 d, .string u, .string g] 23 (0, 0)) := heap_grow ((Below.refl _ _).alloc (Nat.le_refl _) _) (new_at w _)
  have n1 : ((w.alloc (.cells #[.string p, .string l, .int .i64 k, .int .i64 m, .int .i64 a, .int .i64 b, .int .i64 c, .int .i64 d, .string u, .string g] 23)).alloc (.cells #[.int .i64 hf, .string hn, .string hl, .string hp, .string hu, .string hg, .int .u8 ht, .int .i64 hm, .int .i64 ha, .int .i64 hb, .int .i64 hs, .int .i64 hc] 25)).heap[w.heap.size + 1]? = some (.cells #[.int .i64 hf, .string hn, .string hl, .string hp, .string hu, .string hg, .int .u8 ht, .int .i64 hm, .int .i64 ha, .int .i64 hb, .int .i64 hs, .int .i64 hc] 25 (0, 0)) := by have := new_at (w.alloc (.cells #[.string p, .string l, .int .i64 k, .int .i64 m, .int .i64 a, .int .i64 b, .int .i64 c, .int .i64 d, .string u, .string g] 23)) (.cells #[.int .i64 hf, .string hn, .string hl, .string hp, .string hu, .string hg, .int .u8 ht, .int .i64 hm, .int .i64 ha, .int .i64 hb, .int .i64 hs, .int .i64 hc] 25); rwa [World.size_alloc] at this
  have q := first_ok _ (hv.below b1)
  have HV : Hid (∀ W, Below w.heap.size w W → Vs W) := fun W h => hv.below h
  clear hv
  go_enter Tryd.func3, Tryd.ntmps3
  go_wp2_with fail
  generalize (w.alloc (.cells #[.string p, .string l, .int .i64 k, .int .i64 m, .int .i64 a, .int .i64 b, .int .i64 c, .int .i64 d, .string u, .string g] 23)).alloc (.cells #[.int .i64 hf, .string hn, .string hl, .string hp, .string hu, .string hg, .int .u8 ht, .int .i64 hm, .int .i64 ha, .int .i64 hb, .int .i64 hs, .int .i64 hc] 25) = w1 at *
  refine q.mono ?_
  rintro e w2 ⟨rfl, b2⟩
  clear q
  have e2 := heap_grow b2 e1
  have n2 := heap_grow b2 n1
  have bb2 := b1.trans (b2.mono b1.size)
  have b3 : Below w2.heap.size w2 (w2.alloc (.cells #[.string ⟨#[97]⟩, .string ⟨#[]⟩, .int .i64 4, .int .i64 0, .int .i64 0, .int .i64 0, .int .i64 0, .int .i64 0, .string ⟨#[]⟩, .string ⟨#[]⟩] 23)) := (Below.refl _ w2).alloc (Nat.le_refl _) _
  have e3 := heap_grow b3 e2
  obtain ⟨k0, k1, k2, k3, k4, k5, k6, k7, k8, k9⟩ := ten10 e3
  have n3 := heap_grow b3 n2
  have x3 : (w2.alloc (.cells #[.string ⟨#[97]⟩, .string ⟨#[]⟩, .int .i64 4, .int .i64 0, .int .i64 0, .int .i64 0, .int .i64 0, .int .i64 0, .string ⟨#[]⟩, .string ⟨#[]⟩] 23)).cell? ⟨w2.heap.size, 2, none⟩ = some (.int .i64 4) := by simp [World.cell?_alloc_new]
  have bb3 := bb2.trans (b3.mono bb2.size)
  go_wp2_with fail
  generalize w2.alloc (.cells #[.string ⟨#[97]⟩, .string ⟨#[]⟩, .int .i64 4, .int .i64 0, .int .i64 0, .int .i64 0, .int .i64 0, .int .i64 0, .string ⟨#[]⟩, .string ⟨#[]⟩] 23) = w3 at *
  have f0 : w3.cell? ⟨w.heap.size + 1, 0, none⟩ = some (.int .i64 hf) := by simp [World.cell?, n3]
  have z7 : w3.frozen? ⟨w.heap.size, 7, none⟩ = false := by simp [World.frozen?, e3]
  clear e1 n1 e2 n2 b1 b2 bb2 b3
  have qt := type_w k w3
  rw [hk] at qt
  clear hk
  refine qt.mono ?_
  rintro e w' ⟨rfl, rfl⟩
  clear qt
  go_wp2_with fail
  go_ret
  exact ⟨rfl, bb3⟩

end Go.Proofs.YtjnmmkohmfhnlabDoor
