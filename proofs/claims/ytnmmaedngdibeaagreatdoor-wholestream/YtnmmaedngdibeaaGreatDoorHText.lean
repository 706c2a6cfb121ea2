/-
  Contracts: head.textAt, head.formOf, head.Blank.
-/
import Derived.Test.YtnmmaedngdibeaaGreatDoorHNul
import Derived.Test.YtnmmaedngdibeaaGreatDoorHOwnRow
namespace Go.Proofs.YtnmmaedngdibeaaGreatDoor.H
open Go.RowKit
set_option linter.unusedVariables false
set_option linter.unusedSimpArgs false

theorem src_cutA {w : World} {ad : Addr} {zs : List Int} (h : Src w (some ad) zs) (c d : Nat) : Src w (some (ad.add c)) ((zs.drop c).take d) := by
  intro h0
  refine ⟨_, rfl, fun j v hv => ?_⟩
  rw [add_add]
  have hj := (List.getElem?_eq_some_iff.1 hv).1
  rw [cellsOf_length] at hj
  simp only [List.length_take, List.length_drop] at hj
  rw [h.cell (c + j) (by omega), ← hv]
  simp only [cellsOf, List.getElem?_map, List.getElem?_take, List.getElem?_drop]
  rw [if_pos (by omega), List.getElem?_eq_getElem (by omega : c + j < zs.length)]
  simp

/-- the bytes of a field -/
def fld (zs : List Int) (c d : Nat) : List Int := (zs.drop c).take (d - c)
theorem fld_length (zs : List Int) (c d : Nat) (h : d ≤ zs.length) : (fld zs c d).length = d - c := by simp [fld]; omega
theorem fld_allB (zs : List Int) (c d : Nat) (h : AllB zs) : AllB (fld zs c d) := fun z hz => h z (List.mem_of_mem_drop (List.mem_of_mem_take hz))

/-- the text of a field -/
def textL (zs : List Int) (c d : Nat) : List Int := txt (fld zs c d)

set_option maxHeartbeats 1000000 in
theorem textAt_w (ad : Addr) (cap : Nat) (zs : List Int) (c d : Nat) (w : World) (hb : Hid (AllB zs)) (hl : Hid (zs.length = 512)) (hc : 512 ≤ cap) (hc2 : cap ≤ 9223372036854775807) (hs : Src w (some ad) zs) (h1 : c ≤ d) (h2 : d ≤ 512) (h3 : c < 512) :
    Calls Tryz.prog 76 #[.slice (some ad) 512 cap, .agg #[.int .i64 c, .int .i64 d]] w fun e w' => e = .returned (.string (strOf (textL zs c d))) ∧ Below w.heap.size w w' := by
  have b1 : Below w.heap.size w (w.alloc (.cells #[.int .i64 c, .int .i64 d] 85)) := (Below.refl _ w).alloc (Nat.le_refl _) _
  have hlen := fld_length zs c d (by have := hl.out; omega)
  have hcv := conv_src (w.alloc (.cells #[.int .i64 c, .int .i64 d] 85)) (some (ad.add c)) (fld zs c d) (d - c) (cap - c) hlen (src_cutA (hs.grow b1) c (d - c))
  have q := cut38 (fld zs c d) (w.alloc (.cells #[.int .i64 c, .int .i64 d] 85)) (fld_allB zs c d hb) (by omega)
  unfold textL
  clear hs hb hl hlen
  generalize strOf (fld zs c d) = s at *
  generalize strOf (txt (fld zs c d)) = t at *
  go_enter Tryz.func76, Tryz.ntmps76
  go_wp2_with fail
  refine q.mono ?_
  rintro e w' ⟨r, b, rfl, hw⟩
  have b2 : Below w.heap.size w w' := by
    rcases hw with rfl | rfl
    · exact b1
    · exact b1.drew
  clear hw
  go_wp2
  go_ret
  exact ⟨rfl, b2⟩

/-- where the fields of a header stand -/
structure Laid (w : World) : Prop where
  n0 : w.cell? ⟨1, 0, none⟩ = some (.int .i64 0)
  n1 : w.cell? ⟨1, 1, none⟩ = some (.int .i64 100)
  l0 : w.cell? ⟨2, 0, none⟩ = some (.int .i64 157)
  l1 : w.cell? ⟨2, 1, none⟩ = some (.int .i64 257)
  f0 : w.cell? ⟨0, 0, none⟩ = some (.int .i64 100)
  f1 : w.cell? ⟨0, 1, none⟩ = some (.int .i64 108)
  f2 : w.cell? ⟨0, 2, none⟩ = some (.int .i64 108)
  f3 : w.cell? ⟨0, 3, none⟩ = some (.int .i64 116)
  f4 : w.cell? ⟨0, 4, none⟩ = some (.int .i64 116)
  f5 : w.cell? ⟨0, 5, none⟩ = some (.int .i64 124)
  f6 : w.cell? ⟨0, 6, none⟩ = some (.int .i64 124)
  f7 : w.cell? ⟨0, 7, none⟩ = some (.int .i64 136)
  f8 : w.cell? ⟨0, 8, none⟩ = some (.int .i64 136)
  f9 : w.cell? ⟨0, 9, none⟩ = some (.int .i64 148)
  u0 : w.cell? ⟨4, 0, none⟩ = some (.int .i64 265)
  u1 : w.cell? ⟨4, 1, none⟩ = some (.int .i64 297)
  g0 : w.cell? ⟨5, 0, none⟩ = some (.int .i64 297)
  g1 : w.cell? ⟨5, 1, none⟩ = some (.int .i64 329)
  p0 : w.cell? ⟨6, 0, none⟩ = some (.int .i64 345)
  p1 : w.cell? ⟨6, 1, none⟩ = some (.int .i64 500)
  m0 : w.cell? ⟨3, 0, none⟩ = some (.int .i64 257)
  m1 : w.cell? ⟨3, 1, none⟩ = some (.int .i64 265)

theorem cell_grow {w w' : World} {g o : Nat} {v : Value} (h : w.cell? ⟨g, o, none⟩ = some v) (b : Below w.heap.size w w') : w'.cell? ⟨g, o, none⟩ = some v := by
  have hlt := World.block_lt_of_cell? w _ h
  rw [← h]
  exact World.cell?_of_block (b.block _ hlt)

theorem Laid.grow {w w' : World} (h : Laid w) (b : Below w.heap.size w w') : Laid w' :=
  ⟨cell_grow h.n0 b, cell_grow h.n1 b, cell_grow h.l0 b, cell_grow h.l1 b, cell_grow h.f0 b, cell_grow h.f1 b, cell_grow h.f2 b, cell_grow h.f3 b, cell_grow h.f4 b, cell_grow h.f5 b, cell_grow h.f6 b, cell_grow h.f7 b, cell_grow h.f8 b, cell_grow h.f9 b, cell_grow h.u0 b, cell_grow h.u1 b, cell_grow h.g0 b, cell_grow h.g1 b, cell_grow h.p0 b, cell_grow h.p1 b, cell_grow h.m0 b, cell_grow h.m1 b⟩

def ustarL : List Int := [117, 115, 116, 97, 114, 0, 48, 48]
def gnuL : List Int := [117, 115, 116, 97, 114, 32, 32, 0]
def formL (zs : List Int) : Int := if fld zs 257 265 = ustarL then 1 else if fld zs 257 265 = gnuL then 2 else 0

theorem strOf_beq (xs zs : List Int) (hx : AllB xs) (hz : AllB zs) : ((strOf xs).toList == (strOf zs).toList) = decide (xs = zs) := by
  rw [ByteArray.toList_eq, ByteArray.toList_eq, strOf_data, strOf_data]
  by_cases c : xs = zs
  · subst c; simp
  · have : ¬ xs.map (fun n => UInt8.ofNat n.toNat) = zs.map (fun n => UInt8.ofNat n.toNat) := by
      intro e
      apply c
      have inj : ∀ (l : List Int), AllB l → (l.map (fun n => UInt8.ofNat n.toNat)).map (fun b => (b.toNat : Int)) = l := by
        intro l hl
        rw [List.map_map]
        conv => rhs; rw [← List.map_id l]
        apply List.map_congr_left
        intro z hz
        have := hl z hz
        simp
        omega
      rw [← inj xs hx, ← inj zs hz, e]
    simp [c, this]

set_option maxHeartbeats 1000000 in
theorem formOf_w (ad : Addr) (cap : Nat) (zs : List Int) (w : World) (hb : Hid (AllB zs)) (hl : Hid (zs.length = 512)) (hc : 512 ≤ cap) (hc2 : cap ≤ 9223372036854775807) (hs : Src w (some ad) zs) (L : Laid w) :
    Calls Tryz.prog 75 #[.slice (some ad) 512 cap] w fun e w' => e = .returned (.int .i64 (formL zs)) ∧ w = w' := by
  have hlen := fld_length zs 257 265 (by have := hl.out; omega)
  have hcut := run_cut w ad 512 cap 257 265 (by omega) (by omega) (by omega) (by omega)
  have hsrc := src_cutA hs 257 (265 - 257)
  rw [add_pos ad 257 (by omega)] at hsrc
  have hcv := conv_src w (some ⟨ad.block, ad.off + 257, none⟩) (fld zs 257 265) 8 (cap - 257) hlen hsrc
  have hB := fld_allB zs 257 265 hb
  have e1 := strOf_beq (fld zs 257 265) ustarL hB (by intro z hz; simp [ustarL] at hz; omega)
  have e2 := strOf_beq (fld zs 257 265) gnuL hB (by intro z hz; simp [gnuL] at hz; omega)
  rw [show (strOf ustarL).toList = [117, 115, 116, 97, 114, 0, 48, 48] by rw [ByteArray.toList_eq, strOf_data]; rfl] at e1
  rw [show (strOf gnuL).toList = [117, 115, 116, 97, 114, 32, 32, 0] by rw [ByteArray.toList_eq, strOf_data]; rfl] at e2
  have k0 := L.m0
  have k1 := L.m1
  unfold formL
  clear hs hb hl hlen hsrc hB L
  generalize strOf (fld zs 257 265) = s at *
  by_cases c1 : fld zs 257 265 = ustarL
  · rw [if_pos c1]
    rw [decide_eq_true c1] at e1
    go_enter Tryz.func75, Tryz.ntmps75
    go_wp2
    go_ret
    exact ⟨rfl, rfl⟩
  · rw [if_neg c1]
    rw [decide_eq_false c1] at e1
    by_cases c2 : fld zs 257 265 = gnuL
    · rw [if_pos c2]
      rw [decide_eq_true c2] at e2
      go_enter Tryz.func75, Tryz.ntmps75
      go_wp2
      go_ret
      exact ⟨rfl, rfl⟩
    · rw [if_neg c2]
      rw [decide_eq_false c2] at e2
      go_enter Tryz.func75, Tryz.ntmps75
      go_wp2
      go_ret
      exact ⟨rfl, rfl⟩

end Go.Proofs.YtnmmaedngdibeaaGreatDoor.H
