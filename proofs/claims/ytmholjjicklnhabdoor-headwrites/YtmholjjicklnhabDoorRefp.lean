/-
  Contract of the document's own reader: pannierref02.Parse, over any bytes up to 300.
-/
import Derived.Test.YtmholjjicklnhabDoorRefd
import Derived.RegionCalls
import Derived.Deep.RegionWith
namespace Go.Proofs.YtmholjjicklnhabDoor
open Go.RowKit

theorem str_tail (z : Int) (r : List Int) : (strOf (z :: r)).extract 1 (r.length + 1) = strOf r := by
  apply strOf_extR
  have h := strOf_toList (z :: r)
  rw [ByteArray.toList_eq] at h
  have e : ((strOf (z :: r)).extract 1 (r.length + 1)).data = (strOf (z :: r)).data.extract 1 (r.length + 1) := by simp
  rw [e, Array.toList_extract, h]
  simp only [u8s, List.extract, List.map_cons, List.drop_succ_cons, List.drop_zero]
  exact List.take_of_length_le (by simp)

set_option maxRecDepth 100000 in
set_option maxHeartbeats 2000000 in
theorem refp_plus (r : List Int) (w : World) (hz : Hid (∀ z ∈ (128 : Int) :: r, isByte z)) (hl : r.length ≤ 299) :
    Calls Tryd.prog 28 #[.string (strOf (128 :: r))] w fun e w' => e = .returned (.tuple #[.int .i64 (resN (bgo r (0))), .int .i64 (resE (bgo r (0)))]) ∧ Below w.heap.size w w' := by
  have hs := strOf_sizeR
  have hix := strOf_at (128 :: r) hz
  have h0 : nth (128 :: r) 0 = 128 := rfl
  have he : (strOf (128 :: r)).toList.isEmpty = false := by rw [strOf_toList]; rfl
  have hx : (strOf (128 :: r)).extract 1 (r.length + 1) = strOf r := str_tail 128 r
  have hzr : Hid (∀ z ∈ r, isByte z) := fun z h => hz.out z (by simp [h])
  cases ho : bgo r (0) with
  | none =>
    go_enter Tryd.func28, Tryd.ntmps28
    go_wp2
    go_region_with (go_at_call 42; refine (big_plus r _ hzr (by omega)).mono ?_; rintro e w1 ⟨rfl, hb⟩)
    all_goals (go_wp2; go_ret2; exact ⟨rfl, ((Below.refl _ _).drew).trans hb⟩)
  | some v =>
    go_enter Tryd.func28, Tryd.ntmps28
    go_wp2
    go_region_with (go_at_call 42; refine (big_plus r _ hzr (by omega)).mono ?_; rintro e w1 ⟨rfl, hb⟩)
    all_goals (go_wp2; go_ret2; exact ⟨rfl, ((Below.refl _ _).drew).trans hb⟩)

set_option maxRecDepth 100000 in
set_option maxHeartbeats 2000000 in
theorem refp_minus (r : List Int) (w : World) (hz : Hid (∀ z ∈ (255 : Int) :: r, isByte z)) (hl : r.length ≤ 299) :
    Calls Tryd.prog 28 #[.string (strOf (255 :: r))] w fun e w' => e = .returned (.tuple #[.int .i64 (resN (bgo r (-1))), .int .i64 (resE (bgo r (-1)))]) ∧ Below w.heap.size w w' := by
  have hs := strOf_sizeR
  have hix := strOf_at (255 :: r) hz
  have h0 : nth (255 :: r) 0 = 255 := rfl
  have he : (strOf (255 :: r)).toList.isEmpty = false := by rw [strOf_toList]; rfl
  have hx : (strOf (255 :: r)).extract 1 (r.length + 1) = strOf r := str_tail 255 r
  have hzr : Hid (∀ z ∈ r, isByte z) := fun z h => hz.out z (by simp [h])
  cases ho : bgo r (-1) with
  | none =>
    go_enter Tryd.func28, Tryd.ntmps28
    go_wp2
    go_region_with (go_at_call 42; refine (big_minus r _ hzr (by omega)).mono ?_; rintro e w1 ⟨rfl, hb⟩)
    all_goals (go_wp2; go_ret2; exact ⟨rfl, ((Below.refl _ _).drew).trans hb⟩)
  | some v =>
    go_enter Tryd.func28, Tryd.ntmps28
    go_wp2
    go_region_with (go_at_call 42; refine (big_minus r _ hzr (by omega)).mono ?_; rintro e w1 ⟨rfl, hb⟩)
    all_goals (go_wp2; go_ret2; exact ⟨rfl, ((Below.refl _ _).drew).trans hb⟩)

theorem refp_odd (z : Int) (r : List Int) (w : World) (hz : Hid (∀ x ∈ z :: r, isByte x)) (h1 : 128 < z) (h2 : z < 255) :
    Calls Tryd.prog 28 #[.string (strOf (z :: r))] w fun e w' => e = .returned (.tuple #[.int .i64 0, .int .i64 20]) ∧ w = w' := by
  have hs := strOf_sizeR
  have hix := strOf_at (z :: r) hz
  have h0 : nth (z :: r) 0 = z := rfl
  have he : (strOf (z :: r)).toList.isEmpty = false := by rw [strOf_toList]; rfl
  have d1 : (z != 128) = true := by simp; omega
  have d2 : (z != 255) = true := by simp; omega
  go_enter Tryd.func28, Tryd.ntmps28
  go_wp2
  go_ret2
  exact ⟨rfl, rfl⟩

theorem refp_nil (w : World) :
    Calls Tryd.prog 28 #[.string (strOf [])] w fun e w' => e = .returned (.tuple #[.int .i64 0, .int .i64 0]) ∧ w = w' := by
  have hs : (strOf []).size = 0 := rfl
  have he2 : (strOf []).toList = [] := strOf_toList []
  go_enter Tryd.func28, Tryd.ntmps28
  go_wp2
  refine wp_loop_rounds 1 ?_
  rw [rounds_succ]
  go_wp2
  refine wp_loop_rounds 1 ?_
  rw [rounds_succ]
  go_wp2
  refine wp_loop_rounds 1 ?_
  rw [rounds_succ]
  go_wp2
  refine wp_loop_rounds 1 ?_
  rw [rounds_succ]
  go_wp2
  refine wp_loop_rounds 1 ?_
  rw [rounds_succ]
  go_wp2
  go_ret2
  exact ⟨rfl, rfl⟩

/-- pannierref02.Parse over any bytes: what 'parseO' says. -/
theorem refp_any (zs : List Int) (w : World) (hz : Hid (∀ z ∈ zs, isByte z)) (hl : zs.length ≤ 300) :
    Calls Tryd.prog 28 #[.string (strOf zs)] w fun e w' => e = .returned (.tuple #[.int .i64 (resN (parseO zs)), .int .i64 (resE (parseO zs))]) ∧ Below w.heap.size w w' := by
  cases zs with
  | nil => exact (refp_nil w).mono fun e w' h => ⟨h.1, h.2 ▸ Below.refl _ _⟩
  | cons z r =>
    have hb := hz.out z (by simp)
    unfold isByte at hb
    simp only [List.length_cons] at hl
    by_cases c1 : z < 128
    · rw [show parseO (z :: r) = dgo (z :: r) 0 0 by simp [parseO, c1]]
      exact (refp_digits (z :: r) w hz (by simpa using hl) (by simp) (by rw [strOf_toList]; rfl) c1).mono fun e w' h => ⟨h.1, h.2 ▸ Below.refl _ _⟩
    · by_cases c2 : z = 128
      · subst c2
        exact refp_plus r w hz (by omega)
      · by_cases c3 : z = 255
        · subst c3
          exact refp_minus r w hz (by omega)
        · rw [show parseO (z :: r) = none by simp [parseO, c1, c2, c3]]
          exact (refp_odd z r w hz (by omega) (by omega)).mono fun e w' h => ⟨h.1, h.2 ▸ Below.refl _ _⟩

end Go.Proofs.YtmholjjicklnhabDoor
