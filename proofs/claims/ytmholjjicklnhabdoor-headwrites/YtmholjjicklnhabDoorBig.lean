/-
  Contract of the document's own reader of bytes: pannierref02.big.
-/
import Derived.Test.YtmholjjicklnhabDoorPlain3
import Derived.Test.YtmholjjicklnhabDoorRefs
namespace Go.Proofs.YtmholjjicklnhabDoor
open Go.RowKit

/-- The byte at a place; behind the end 0. -/
def nth (ps : List Int) (i : Nat) : Int := ps[i]?.getD 0

theorem drop_nth (ps : List Int) (k : Nat) (h : k < ps.length) : ps.drop k = nth ps k :: ps.drop (k + 1) := drop_cons ps k h

theorem byte_atR (ps : List Int) (h : Hid (∀ z ∈ ps, isByte z)) (i : Nat) : isByte (nth ps i) := by
  unfold nth
  by_cases hi : i < ps.length
  · simp only [hi, List.getElem?_eq_getElem, Option.getD_some]; exact h.out _ (List.getElem_mem hi)
  · simp only [List.getElem?_eq_none (Nat.le_of_not_lt hi), Option.getD_none]; exact ⟨by decide, by decide⟩

theorem val_first (ps : List Int) (h : Hid (∀ z ∈ ps, isByte z)) (j : Nat) (hj : j + 8 = ps.length) :
    nth ps j * 16777216 ≤ val ((ps.drop j).take 4) 0 ∧ val ((ps.drop j).take 4) 0 ≤ nth ps j * 16777216 + 16777215 := by
  have b := val_bounds ((ps.drop (j + 1)).take 3) (fun z hz => h.out z (List.mem_of_mem_drop (List.mem_of_mem_take hz))) (nth ps j)
  have e : ((ps.drop (j + 1)).take 3).length = 3 := by simp; omega
  rw [e] at b
  rw [drop_nth ps j (by omega), List.take_succ_cons]
  simp only [val, Int.mul_zero, Int.zero_add]
  rw [show (256 : Int) ^ 3 = 16777216 by decide] at b
  omega

theorem ret_bo_bad {o : Option Int} (h : o = none) : Ending.returned (.tuple #[.int .i64 0, .bool false]) = .returned (.tuple #[.int .i64 (resN o), .bool o.isSome]) := by subst h; rfl
theorem ret_bo_good {o : Option Int} {n m : Int} (h : o = some n) (e : m = n) : Ending.returned (.tuple #[.int .i64 m, .bool true]) = .returned (.tuple #[.int .i64 (resN o), .bool o.isSome]) := by subst h e; rfl

theorem strOf_at (ps : List Int) (h : Hid (∀ z ∈ ps, isByte z)) : ∀ (i : Nat) (hi : i < (strOf ps).size), (((strOf ps)[i]'hi).toNat : Int) = nth ps i := by
  intro i hi
  unfold nth
  have e := strOf_toList ps
  rw [ByteArray.toList_eq] at e
  have hi2 : i < ps.length := by rw [strOf_sizeR] at hi; exact hi
  have hb := h.out ps[i] (List.getElem_mem hi2)
  unfold isByte at hb
  have e2 : (strOf ps).data.toList[i]? = (u8s ps)[i]? := by rw [e]
  have e3 : (strOf ps).data.toList[i]? = some ((strOf ps)[i]'hi) := by
    have : i < (strOf ps).data.size := hi
    rw [Array.getElem?_toList, Array.getElem?_eq_getElem this]; rfl
  rw [e3] at e2
  simp [u8s, hi2] at e2
  rw [e2]
  simp [hi2]
  omega

set_option maxHeartbeats 2000000 in
theorem big_plus (zs : List Int) (w : World) (hz : Hid (∀ z ∈ zs, isByte z)) (hl : zs.length ≤ 300) :
    Calls Tryd.prog 42 #[.string (strOf zs), .bool false] w fun e w' => e = .returned (.tuple #[.int .i64 (resN (bgo zs (0))), .bool (bgo zs (0)).isSome]) ∧ Below w.heap.size w w' := by
  have hc := conv_one
  have hs := strOf_sizeR
  have ha := strOf_append
  go_enter Tryd.func42, Tryd.ntmps42
  go_wp2
  go_loopw [0] (fun s wr => ∃ ps : List Int, s = .string (strOf ps) ∧ ps.length ≤ 300 ∧ Hid (∀ z ∈ ps, isByte z) ∧ Hid (bgo zs (0) = bgo ps (0)) ∧ Below w.heap.size w wr) (fun s _ => 8 - strSize s)
  case atStart => exact ⟨zs, rfl, hl, hz, rfl, Below.refl _ _⟩
  case round =>
    obtain ⟨ps, rfl, hp, HB, H, hb⟩ := hrel
    by_cases c : ps.length < 8
    · go_wp2
      go_roundw
      case rel => exact ⟨0 :: ps, rfl, by simp; omega, fun z hz => by rcases List.mem_cons.1 hz with rfl | h; exact ⟨by decide, by decide⟩; exact HB.out z h, H.out.trans (bgo_sign 0 (0) (.inl ⟨rfl, rfl⟩) ps).symm, hb.alloc hb.size _⟩
      case measure => simp only [strSize, strOf_sizeR, List.length_cons]; omega
    · obtain ⟨m, hm⟩ : ∃ m, ps.length = m + 8 := ⟨ps.length - 8, by omega⟩
      have hix := strOf_at ps HB
      clear ha hc
      go_wp2
      go_loop [8] (fun i => ∃ j : Nat, j ≤ m ∧ i = .int .i64 j ∧ Hid (bgo zs (0) = bgo (ps.drop j) (0))) (fun i => m - (intOf i).toNat)
      case atStart => exact ⟨0, by omega, rfl, by simpa using H⟩
      case round =>
        obtain ⟨j, hj, rfl, HJ⟩ := hrel
        by_cases c2 : j < m
        · have HD : Hid (bgo zs (0) = bgo (nth ps j :: ps.drop (j + 1)) (0)) := HJ.out.trans (by rw [drop_nth ps j (by omega)])
          have HQ : Hid (isByte (nth ps j) ∧ (∀ z ∈ ps.drop (j + 1), isByte z) ∧ 8 ≤ (ps.drop (j + 1)).length) := ⟨byte_atR ps HB j, fun z hz => HB.out z (List.mem_of_mem_drop hz), by simp; omega⟩
          clear HJ
          go_wp2
          · have h : (nth ps j != 0) = true := by assumption
            go_ret2
            exact ⟨ret_bo_bad (HD.out.trans (bgo_odd 0 (0) _ (.inl ⟨rfl, rfl⟩) _ HQ.out.1 HQ.out.2.1 HQ.out.2.2 (by simpa using h))), hb⟩
          · have h : (nth ps j != 0) = false := by assumption
            go_round
            case rel => exact ⟨j + 1, by omega, by go_num, HD.out.trans (by rw [show nth ps j = 0 by simpa using h, bgo_sign 0 (0) (.inl ⟨rfl, rfl⟩)])⟩
            case measure => simp [intOf]; omega
        · obtain rfl : j = m := by omega
          have HD : Hid (bgo zs (0) = if (128 ≤ nth ps j ↔ (0 : Int) = -1) then some ((0) * 18446744073709551616 + val (ps.drop j) 0) else none) := HJ.out.trans (by
            rw [drop_nth ps j (by omega)]
            exact bgo_eight 0 (0) (.inl ⟨rfl, rfl⟩) _ _ (byte_atR ps HB j) (fun z hz => HB.out z (List.mem_of_mem_drop hz)) (by simp; omega))
          clear HJ H
          by_cases c3 : 128 ≤ nth ps j
          · have d3 : decide (128 ≤ nth ps j) = true := by simpa using c3
            go_wp2
            go_ret2
            exact ⟨ret_bo_bad (HD.out.trans (by rw [if_neg (by simp [c3])])), hb⟩
          · have d3 : decide (128 ≤ nth ps j) = false := by simpa using c3
            have HV : Hid (bgo zs (0) = some ((0) * 18446744073709551616 + val (ps.drop j) 0)) := HD.out.trans (by rw [if_pos (by simp [c3])])
            have HT : Hid (val (ps.drop j) 0 = val ((ps.drop j).take 4) 0 * 4294967296 + val (((ps.drop j).drop 4).take 4) 0) := val_halves _ (by simp; omega)
            have HY : Hid (∀ z ∈ ps.drop j, isByte z) := fun z hz => HB.out z (List.mem_of_mem_drop hz)
            clear HD
            go_wp2
            go_loop [9, 10, 11] (fun h l i => ∃ k : Nat, k ≤ 4 ∧ i = .int .i64 k ∧ h = .int .i64 (val ((ps.drop j).take k) 0) ∧ l = .int .i64 (val (((ps.drop j).drop 4).take k) 0)) (fun _ _ i => 4 - (intOf i).toNat)
            case atStart => exact ⟨0, by omega, rfl, rfl, rfl⟩
            case round =>
              obtain ⟨k, hk, rfl, rfl, rfl⟩ := hrel
              have b1 := val_take_bd (ps.drop j) HY.out k hk
              have b2 := val_take_bd ((ps.drop j).drop 4) (fun z hz => HY.out z (List.mem_of_mem_drop hz)) k hk
              by_cases c4 : k < 4
              · have E1 : Hid (val ((ps.drop j).take (k + 1)) 0 = 256 * val ((ps.drop j).take k) 0 + nth ps (j + k)) := by
                  show _ = _
                  rw [val_take _ _ (by simp; omega), List.getElem?_drop]; rfl
                have E2 : Hid (val (((ps.drop j).drop 4).take (k + 1)) 0 = 256 * val (((ps.drop j).drop 4).take k) 0 + nth ps (j + 4 + k)) := by
                  show _ = _
                  rw [val_take _ _ (by simp; omega), List.getElem?_drop, List.getElem?_drop, ← Nat.add_assoc]; rfl
                have q1 : isByte (nth ps (j + k)) := byte_atR ps HB _
                have q2 : isByte (nth ps (j + 4 + k)) := byte_atR ps HB _
                unfold isByte at q1 q2
                generalize val ((ps.drop j).take k) 0 = X at *
                generalize val (((ps.drop j).drop 4).take k) 0 = Y at *
                go_wp2
                go_round
                case rel => exact ⟨k + 1, by omega, by go_num, by rw [E1.out, Int.mul_comm], by rw [E2.out, Int.mul_comm]⟩
                case measure => simp [intOf]; omega
              · obtain rfl : k = 4 := by omega
                have bf := val_first ps HB j hm.symm
                generalize val ((ps.drop j).take 4) 0 = X at *
                generalize val (((ps.drop j).drop 4).take 4) 0 = Y at *
                have bX := show X ≤ 2147483647 by omega
                clear bf
                go_wp2
                go_ret2
                exact ⟨ret_bo_good HV.out (by rw [HT.out]; first | omega | (unfold wrap64; omega)), hb⟩

set_option maxHeartbeats 2000000 in
theorem big_minus (zs : List Int) (w : World) (hz : Hid (∀ z ∈ zs, isByte z)) (hl : zs.length ≤ 300) :
    Calls Tryd.prog 42 #[.string (strOf zs), .bool true] w fun e w' => e = .returned (.tuple #[.int .i64 (resN (bgo zs (-1))), .bool (bgo zs (-1)).isSome]) ∧ Below w.heap.size w w' := by
  have hc := conv_one
  have hs := strOf_sizeR
  have ha := strOf_append
  go_enter Tryd.func42, Tryd.ntmps42
  go_wp2
  go_loopw [0] (fun s wr => ∃ ps : List Int, s = .string (strOf ps) ∧ ps.length ≤ 300 ∧ Hid (∀ z ∈ ps, isByte z) ∧ Hid (bgo zs (-1) = bgo ps (-1)) ∧ Below w.heap.size w wr) (fun s _ => 8 - strSize s)
  case atStart => exact ⟨zs, rfl, hl, hz, rfl, Below.refl _ _⟩
  case round =>
    obtain ⟨ps, rfl, hp, HB, H, hb⟩ := hrel
    by_cases c : ps.length < 8
    · go_wp2
      go_roundw
      case rel => exact ⟨255 :: ps, rfl, by simp; omega, fun z hz => by rcases List.mem_cons.1 hz with rfl | h; exact ⟨by decide, by decide⟩; exact HB.out z h, H.out.trans (bgo_sign 255 (-1) (.inr ⟨rfl, rfl⟩) ps).symm, hb.alloc hb.size _⟩
      case measure => simp only [strSize, strOf_sizeR, List.length_cons]; omega
    · obtain ⟨m, hm⟩ : ∃ m, ps.length = m + 8 := ⟨ps.length - 8, by omega⟩
      have hix := strOf_at ps HB
      clear ha hc
      go_wp2
      go_loop [8] (fun i => ∃ j : Nat, j ≤ m ∧ i = .int .i64 j ∧ Hid (bgo zs (-1) = bgo (ps.drop j) (-1))) (fun i => m - (intOf i).toNat)
      case atStart => exact ⟨0, by omega, rfl, by simpa using H⟩
      case round =>
        obtain ⟨j, hj, rfl, HJ⟩ := hrel
        by_cases c2 : j < m
        · have HD : Hid (bgo zs (-1) = bgo (nth ps j :: ps.drop (j + 1)) (-1)) := HJ.out.trans (by rw [drop_nth ps j (by omega)])
          have HQ : Hid (isByte (nth ps j) ∧ (∀ z ∈ ps.drop (j + 1), isByte z) ∧ 8 ≤ (ps.drop (j + 1)).length) := ⟨byte_atR ps HB j, fun z hz => HB.out z (List.mem_of_mem_drop hz), by simp; omega⟩
          clear HJ
          go_wp2
          · have h : (nth ps j != 255) = true := by assumption
            go_ret2
            exact ⟨ret_bo_bad (HD.out.trans (bgo_odd 255 (-1) _ (.inr ⟨rfl, rfl⟩) _ HQ.out.1 HQ.out.2.1 HQ.out.2.2 (by simpa using h))), hb⟩
          · have h : (nth ps j != 255) = false := by assumption
            go_round
            case rel => exact ⟨j + 1, by omega, by go_num, HD.out.trans (by rw [show nth ps j = 255 by simpa using h, bgo_sign 255 (-1) (.inr ⟨rfl, rfl⟩)])⟩
            case measure => simp [intOf]; omega
        · obtain rfl : j = m := by omega
          have HD : Hid (bgo zs (-1) = if (128 ≤ nth ps j ↔ (-1 : Int) = -1) then some ((-1) * 18446744073709551616 + val (ps.drop j) 0) else none) := HJ.out.trans (by
            rw [drop_nth ps j (by omega)]
            exact bgo_eight 255 (-1) (.inr ⟨rfl, rfl⟩) _ _ (byte_atR ps HB j) (fun z hz => HB.out z (List.mem_of_mem_drop hz)) (by simp; omega))
          clear HJ H
          by_cases c3 : 128 ≤ nth ps j
          · have d3 : decide (128 ≤ nth ps j) = true := by simpa using c3
            have HV : Hid (bgo zs (-1) = some ((-1) * 18446744073709551616 + val (ps.drop j) 0)) := HD.out.trans (by rw [if_pos (by simp [c3])])
            have HT : Hid (val (ps.drop j) 0 = val ((ps.drop j).take 4) 0 * 4294967296 + val (((ps.drop j).drop 4).take 4) 0) := val_halves _ (by simp; omega)
            have HY : Hid (∀ z ∈ ps.drop j, isByte z) := fun z hz => HB.out z (List.mem_of_mem_drop hz)
            clear HD
            go_wp2
            go_loop [9, 10, 11] (fun h l i => ∃ k : Nat, k ≤ 4 ∧ i = .int .i64 k ∧ h = .int .i64 (val ((ps.drop j).take k) 0) ∧ l = .int .i64 (val (((ps.drop j).drop 4).take k) 0)) (fun _ _ i => 4 - (intOf i).toNat)
            case atStart => exact ⟨0, by omega, rfl, rfl, rfl⟩
            case round =>
              obtain ⟨k, hk, rfl, rfl, rfl⟩ := hrel
              have b1 := val_take_bd (ps.drop j) HY.out k hk
              have b2 := val_take_bd ((ps.drop j).drop 4) (fun z hz => HY.out z (List.mem_of_mem_drop hz)) k hk
              by_cases c4 : k < 4
              · have E1 : Hid (val ((ps.drop j).take (k + 1)) 0 = 256 * val ((ps.drop j).take k) 0 + nth ps (j + k)) := by
                  show _ = _
                  rw [val_take _ _ (by simp; omega), List.getElem?_drop]; rfl
                have E2 : Hid (val (((ps.drop j).drop 4).take (k + 1)) 0 = 256 * val (((ps.drop j).drop 4).take k) 0 + nth ps (j + 4 + k)) := by
                  show _ = _
                  rw [val_take _ _ (by simp; omega), List.getElem?_drop, List.getElem?_drop, ← Nat.add_assoc]; rfl
                have q1 : isByte (nth ps (j + k)) := byte_atR ps HB _
                have q2 : isByte (nth ps (j + 4 + k)) := byte_atR ps HB _
                unfold isByte at q1 q2
                generalize val ((ps.drop j).take k) 0 = X at *
                generalize val (((ps.drop j).drop 4).take k) 0 = Y at *
                go_wp2
                go_round
                case rel => exact ⟨k + 1, by omega, by go_num, by rw [E1.out, Int.mul_comm], by rw [E2.out, Int.mul_comm]⟩
                case measure => simp [intOf]; omega
              · obtain rfl : k = 4 := by omega
                have bf := val_first ps HB j hm.symm
                generalize val ((ps.drop j).take 4) 0 = X at *
                generalize val (((ps.drop j).drop 4).take 4) 0 = Y at *
                have bX := show 2147483648 ≤ X by have := byte_atR ps HB j; unfold isByte at this; omega
                clear bf
                go_wp2
                go_ret2
                exact ⟨ret_bo_good HV.out (by rw [HT.out]; first | omega | (unfold wrap64; omega)), hb⟩
          · have d3 : decide (128 ≤ nth ps j) = false := by simpa using c3
            go_wp2
            go_ret2
            exact ⟨ret_bo_bad (HD.out.trans (by rw [if_neg (by simp [c3])])), hb⟩

end Go.Proofs.YtmholjjicklnhabDoor
