/-
  Bytes that are turned; the bytes of what was read, which may be written.
-/
import Derived.Test.YtnmmaedngdibeaaGreatDoorQw
namespace Go.Proofs.YtnmmaedngdibeaaGreatDoor
open Go.RowKit
set_option linter.unusedVariables false
set_option linter.unusedSimpArgs false

def fx (z : Int) : Int := bits .xor .u8 z 255
/-- bytes of which the first are turned -/
def xorL (zs : List Int) (i : Nat) : List Int := (zs.take i).map fx ++ zs.drop i
theorem xorL_len (zs : List Int) (i : Nat) : (xorL zs i).length = zs.length := by
  unfold xorL
  rw [List.length_append, List.length_map, List.length_take, List.length_drop]
  omega
theorem xorL_zero (zs : List Int) : xorL zs 0 = zs := by simp [xorL]
theorem xorL_all (zs : List Int) : xorL zs zs.length = zs.map fx := by simp [xorL]
theorem xorL_get (zs : List Int) (i : Nat) (h : i < zs.length) : (xorL zs i)[i]? = some zs[i] := by
  unfold xorL
  rw [List.getElem?_append_right (by rw [List.length_map, List.length_take]; omega), List.length_map, List.length_take, List.getElem?_drop]
  rw [show i + (i - min i zs.length) = i from by omega, List.getElem?_eq_getElem h]
theorem xorL_set (zs : List Int) (i : Nat) (h : i < zs.length) : (xorL zs i).set i (fx zs[i]) = xorL zs (i + 1) := by
  apply List.ext_getElem?
  intro j
  rw [List.getElem?_set]
  have hi : i < (xorL zs i).length := by rw [xorL_len]; exact h
  by_cases e : i = j
  · subst e
    rw [if_pos rfl, if_pos hi]
    unfold xorL
    rw [List.getElem?_append_left (by rw [List.length_map, List.length_take]; omega), List.getElem?_map, List.getElem?_take, if_pos (by omega), List.getElem?_eq_getElem h]
    rfl
  · rw [if_neg e]
    unfold xorL
    by_cases hj : j < i
    · rw [List.getElem?_append_left (by rw [List.length_map, List.length_take]; omega), List.getElem?_append_left (by rw [List.length_map, List.length_take]; omega), List.getElem?_map, List.getElem?_map, List.getElem?_take, List.getElem?_take, if_pos (by omega), if_pos (by omega)]
    · rw [List.getElem?_append_right (by rw [List.length_map, List.length_take]; omega), List.getElem?_append_right (by rw [List.length_map, List.length_take]; omega), List.length_map, List.length_take, List.length_map, List.length_take, List.getElem?_drop, List.getElem?_drop]
      congr 1
      omega

/-- a byte of a row of one's own is turned -/
theorem own_turn {W : World} {G i cap : Nat} {zs : List Int} (h : W.ownsRow 0 5 1 (.slice (some ⟨G, 0, none⟩) zs.length cap) zs.length ((xorL zs i).map fun z => Value.int .u8 z)) (hi : i < zs.length) :
    (W.setCell ⟨G, i, none⟩ (.int .u8 (fx zs[i]))).ownsRow 0 5 1 (.slice (some ⟨G, 0, none⟩) zs.length cap) zs.length ((xorL zs (i + 1)).map fun z => Value.int .u8 z) := by
  have := own_put h i (.int .u8 (fx zs[i]))
  rw [← xorL_set zs i hi, List.map_set]
  exact this
theorem own_at {W : World} {a : Option Addr} {i cap : Nat} {zs : List Int} (h : W.ownsRow 0 5 1 (.slice a zs.length cap) zs.length ((xorL zs i).map fun z => Value.int .u8 z)) (hi : i < zs.length) :
    ∃ G, a = some ⟨G, 0, none⟩ ∧ G < W.heap.size ∧ W.cell? ⟨G, i, none⟩ = some (.int .u8 zs[i]) ∧ ∀ n, W.frozen? ⟨G, n, none⟩ = false := by
  rcases id h.2 with ⟨e1, e2⟩ | ⟨G, cp, cur, e1, e2, e3, e4, e5, e6, e7⟩
  · omega
  · cases e1
    refine ⟨G, rfl, lt_of_heap e3, ?_, fun n => by simp [World.frozen?, e3]⟩
    have := World.ownsRow.cells h (g := G) rfl i (.int .u8 zs[i]) (by rw [List.getElem?_map, xorL_get zs i hi]; rfl)
    rw [add_at, Nat.zero_add] at this
    exact this

set_option maxRecDepth 100000 in
set_option maxHeartbeats 4000000 in
theorem flip_w (w : World) (vb : Value) (zs : List Int) (hb : RIn .u8 w vb zs) (hl : zs.length ≤ 100000) :
    Calls Tryz.prog 15 #[vb] w fun e w' => ∃ a c, e = .returned (.slice a zs.length c) ∧ RIn .u8 w' (.slice a zs.length c) (zs.map fx) ∧ Below w.heap.size w w' := by
  obtain ⟨PP, hPP⟩ : ∃ PP : Ending → World → Prop, PP = fun e w' => ∃ a c, e = .returned (.slice a zs.length c) ∧ RIn .u8 w' (.slice a zs.length c) (zs.map fx) ∧ Below w.heap.size w w' := ⟨_, rfl⟩
  rw [← hPP]
  have HP : Hid (∀ W a c, W.ownsRow 0 5 1 (.slice a zs.length c) zs.length ((xorL zs zs.length).map fun z => Value.int .u8 z) → Below w.heap.size w W → PP (.returned (.slice a zs.length c)) W) := fun W a c o b => by
    rw [hPP]
    refine ⟨a, c, rfl, ?_, b⟩
    rw [xorL_all] at o
    have hlm : (zs.map fx).length = zs.length := List.length_map _
    exact own_rin (e := 5) (by rw [hlm]; exact o)
  clear hPP
  obtain ⟨ad0, c0, rfl⟩ := hb.sl
  have E0 : Hid ((w.alloc (.cells #[] 5)).ownsRow 0 5 1 (.slice (some ⟨w.heap.size, 0, none⟩) 0 0) ([] : List Int).length (([] : List Int).map fun z => Value.int .u8 z)) := empty_own w 5 .u8
  have bE : Below w.heap.size w (w.alloc (.cells #[] 5)) := (Below.refl _ w).alloc (Nat.le_refl _) _
  have HBE : Hid _ := bE
  have HR1 : Hid (RIn .u8 (w.alloc (.cells #[] 5)) (.slice ad0 zs.length c0) zs) := hb.below bE
  clear bE hb
  go_enter Tryz.func15, Tryz.ntmps15
  go_wp2_with (at_builtin; refine wpList_append_u8s rfl _ _ rfl (xs := []) (ks := zs) _ rfl E0.out _ rfl HR1.out (by simp; omega) w.heap.size (by simp) (fun k hk => by have hk' : some w.heap.size = some k := hk; cases hk'; omega) ?_; intro v7 w7 o7 b7 n7; obtain ⟨a7, c7, rfl, _⟩ := own_sl o7; have HO7 : Hid _ := o7; have HB7 : Hid (Below w.heap.size w w7) := HBE.out.trans b7; have HN7 : Hid (∀ k, (Value.slice a7 zs.length c7).ownBlock = some k → w.heap.size ≤ k) := n7; clear o7 b7 n7)
  have O0 : Hid (w7.ownsRow 0 5 1 (.slice a7 zs.length c7) zs.length ((xorL zs 0).map fun z => Value.int .u8 z)) := by rw [xorL_zero]; exact HO7.out
  clear HO7 E0 HBE HR1
  go_loopg [10] zs.length (fun gk t10 W => ∃ (Wn : World) (i : Nat), Wn = W ∧ i ≤ zs.length ∧ zs.length - i ≤ gk ∧ t10 = .int .i64 (i : Int) ∧ Hid (W.ownsRow 0 5 1 (.slice a7 zs.length c7) zs.length ((xorL zs i).map fun z => Value.int .u8 z)) ∧ Hid (Below w.heap.size w W))
  case atStart => exact ⟨_, 0, rfl, Nat.zero_le _, by omega, rfl, O0, HB7⟩
  case round =>
    obtain ⟨W, i, rfl, hi0, hgk, rfl, hO, hB⟩ := hrel
    clear O0 HB7
    by_cases hlt : i < zs.length
    · have hlt1 : (i : Int) < (zs.length : Int) := by omega
      obtain ⟨G, rfl, hG, hcell, hfz⟩ := own_at hO.out hlt
      have hGn := HN7.out G rfl
      have HT : Hid _ := own_turn hO.out hlt
      have HBT : Hid (Below w.heap.size w (W.setCell ⟨G, i, none⟩ (.int .u8 (fx zs[i])))) := hB.out.setCell hGn _
      unfold fx at HT HBT
      generalize zs[i] = zi at *
      clear HP hO hB
      go_wp2_with fail
      go_roundg (zs.length - (i + 1))
      case rel => exact ⟨_, i + 1, rfl, by omega, Nat.le_refl _, by simp, HT, HBT⟩
      case measure => omega
    · have hie : i = zs.length := by omega
      subst hie
      have F := HP.out W _ _ hO.out hB.out
      have HF : Hid _ := F
      clear HP hO hB F
      go_wp2_with fail
      exact HF.out
end Go.Proofs.YtnmmaedngdibeaaGreatDoor
