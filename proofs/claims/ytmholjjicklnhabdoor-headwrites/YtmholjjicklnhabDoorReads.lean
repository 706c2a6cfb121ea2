/-
  pannierlaw06.reads is true.
-/
import Derived.Test.YtmholjjicklnhabDoorReads0
namespace Go.Proofs.YtmholjjicklnhabDoor
open Go.RowKit
set_option linter.unusedVariables false

theorem rowN_get (zs : List Int) (j : Nat) (v : Value) (h : (cellsOf zs)[j]? = some v) : (row zs)[j]? = some v := by
  simpa [row, cellsOf] using h

theorem src_rowN (w : World) (zs : List Int) : Src (w.alloc (.cells (row zs) 5)) (some ⟨w.heap.size, 0, none⟩) zs := by
  intro _
  refine ⟨_, rfl, fun j v hv => ?_⟩
  have hadd : (⟨w.heap.size, 0, none⟩ : Addr).add j = ⟨w.heap.size, j, none⟩ := by unfold Addr.add; split <;> simp_all
  rw [hadd]
  exact new_cell w _ _ j v (rowN_get zs j v hv)

set_option maxRecDepth 20000 in
set_option maxHeartbeats 4000000 in
theorem reads_ok (w : World) (L : Hid (Laid w)) : Calls Tryd.prog 9 #[] w fun e w' => e = .returned (.bool true) ∧ Below w.heap.size w w' := by
  have qe := enc_yes 0 ⟨#[97]⟩ ⟨#[]⟩ ⟨#[]⟩ ⟨#[]⟩ ⟨#[]⟩ 48 420 0 0 5 0 w zz_texts L.out (by omega) (by omega) (by omega) (by omega) (by omega) (by omega)
  unfold hcells at qe
  go_enter Tryd.func9, Tryd.ntmps9
  go_wp2_with fail
  refine qe.mono ?_
  rintro e w1 (⟨_, ⟨k, hk, hn⟩, _⟩ | ⟨g, rfl, _, O⟩)
  · exfalso
    have : ∀ k, k < 5 → numFit (numsF 420 0 0 5 0) k = true := by decide +kernel
    rw [this k hk] at hn
    cases hn
  · clear qe
    have hO : Own w w1 g zz := O
    have HSR : Hid (∀ W, Below w1.heap.size w1 W → Src W (some ⟨g, 0, none⟩) zz) := fun W hb => hO.src.grow hb
    have BB : Hid (Below w.heap.size w w1) := hO.below
    have qd := dec_yes ⟨g, 0, none⟩ 512 zz w1 zz_allB zz_length (by omega) (by omega) hO.src zz_right (L.out.grow hO.below)
    clear hO O
    go_wp2_with fail
    refine qd.mono ?_
    rintro e w2 ⟨h | h, b2⟩
    · exfalso
      obtain ⟨k, hk, _, hne, _⟩ := h
      rcases (show k = 0 ∨ k = 1 ∨ k = 2 ∨ k = 3 ∨ k = 4 by omega) with rfl | rfl | rfl | rfl | rfl
      · exact hne zz_e0
      · exact hne zz_e1
      · exact hne zz_e2
      · exact hne zz_e3
      · exact hne zz_e4
    · obtain ⟨_, rfl⟩ := h
      have hsz : (hdF zz) = #[.int .i64 1, .string ⟨#[97]⟩, .string (tx zz 157 257), .string (if isU zz then tx zz 345 500 else ⟨#[]⟩), .string (if notOld zz then tx zz 265 297 else ⟨#[]⟩), .string (if notOld zz then tx zz 297 329 else ⟨#[]⟩), .int .u8 (zz[156]?.getD 0), .int .i64 420, .int .i64 (vN zz 1), .int .i64 (vN zz 2), .int .i64 5, .int .i64 (vN zz 4)] := by
        unfold hdF
        rw [zz_form, zz_name_s, zz_v0, zz_v3]
      rw [hsz]
      clear hsz qd
      generalize tx zz 157 257 = t1
      generalize (if isU zz then tx zz 345 500 else (⟨#[]⟩ : ByteArray)) = t2
      generalize (if notOld zz then tx zz 265 297 else (⟨#[]⟩ : ByteArray)) = t3
      generalize (if notOld zz then tx zz 297 329 else (⟨#[]⟩ : ByteArray)) = t4
      generalize zz[156]?.getD 0 = t5
      generalize vN zz 1 = v1
      generalize vN zz 2 = v2
      generalize vN zz 4 = v4
      have B2 : Below w.heap.size w w2 := BB.out.trans (b2.mono BB.out.size)
      have qb : ∀ W, Below w2.heap.size w2 W → Calls Tryd.prog 13 #[.slice (some ⟨g, 0, none⟩) 512 512] W fun e w' => e = .returned (.bool false) ∧ W = w' := fun W hb => by
        have := blank_yes ⟨g, 0, none⟩ 512 zz W zz_length (HSR.out W (b2.trans (hb.mono b2.size)))
        rw [zz_blank] at this
        exact this
      go_wp2_with fail
      refine (qb _ ((Below.refl _ w2).alloc (Nat.le_refl _) _)).mono ?_
      rintro e w' ⟨rfl, rfl⟩
      clear qb
      have mk := make512
      have qz : ∀ X : World, Calls Tryd.prog 13 #[.slice (some ⟨X.heap.size, 0, none⟩) 512 512] (X.alloc (.cells (row (List.replicate 512 0)) 5)) fun e w' => e = .returned (.bool true) ∧ (X.alloc (.cells (row (List.replicate 512 0)) 5)) = w' := fun X => by
        have := blank_yes ⟨X.heap.size, 0, none⟩ 512 (List.replicate 512 0) _ (by show _ = _; simp) (src_rowN X (List.replicate 512 0))
        rw [nought_blank] at this
        exact this
      generalize row (List.replicate 512 0) = R at *
      have B3 := B2.alloc B2.size (.cells #[.int .i64 1, .string ⟨#[97]⟩, .string t1, .string t2, .string t3, .string t4, .int .u8 t5, .int .i64 420, .int .i64 v1, .int .i64 v2, .int .i64 5, .int .i64 v4] 25)
      generalize w2.alloc (.cells #[.int .i64 1, .string ⟨#[97]⟩, .string t1, .string t2, .string t3, .string t4, .int .u8 t5, .int .i64 420, .int .i64 v1, .int .i64 v2, .int .i64 5, .int .i64 v4] 25) = w3 at *
      have B4 := B3.alloc B3.size (.cells R 5)
      go_wp2_with fail
      refine (qz w3).mono ?_
      rintro e w' ⟨rfl, rfl⟩
      go_wp2
      go_ret
      exact ⟨by first | rfl | simp, B4⟩

end Go.Proofs.YtmholjjicklnhabDoor
