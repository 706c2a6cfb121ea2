/-
  Contracts: head.Split of a long path; pannierref06.text; pannierref06.Split.
-/
import Derived.Test.YtmholjjicklnhabDoorRt
import Derived.Test.YtmholjjicklnhabDoorSplit2
namespace Go.Proofs.YtmholjjicklnhabDoor
open Go.RowKit
set_option linter.unusedVariables false
set_option linter.unusedSimpArgs false

theorem gD_s8 (s : ByteArray) (k : Nat) (h : k < s.size) : gD (s8 s) k = (s[k].toNat : Int) := by
  unfold gD s8
  rw [List.getElem?_map, List.getElem?_eq_getElem (by simpa using h)]
  rfl

/-- a path may be cut at k -/
def SpAt (s : ByteArray) (k : Nat) : Prop := 1 ≤ k ∧ k ≤ 155 ∧ k + 1 < s.size ∧ s.size ≤ k + 101 ∧ gD (s8 s) k = 47
def SpF (s : ByteArray) (k : Nat) : Prop := SpAt s k ∧ ∀ j, j < k → ¬ SpAt s j

theorem ext_get (s : ByteArray) (a b k : Nat) (h : k < b - a) (hb : b ≤ s.size) : (s.extract a b).data.toList[k]? = some (s[a + k]'(by omega)) := by
  rw [ByteArray.data_extract, Array.toList_extract]
  simp only [List.extract_eq_take_drop]
  rw [List.getElem?_take_of_lt h, List.getElem?_drop, List.getElem?_eq_getElem (by simp; omega)]
  rfl

/-- where the slash stands, as Split looks for it -/
theorem slash_case (s : ByteArray) (h1 : 100 < s.size) : (slashI s = -1 ∧ ∀ k, ¬ SpAt s k) ∨ (∃ o : Nat, slashI s = o ∧ beg s + o + 1 < s.size ∧ 1 ≤ beg s ∧ ((155 < beg s + o ∧ ∀ k, ¬ SpAt s k) ∨ (beg s + o ≤ 155 ∧ SpF s (beg s + o)))) := by
  have hB : beg s = max 1 (s.size - 101) := rfl
  have hge := Lib.indexByte_ge (s.extract (beg s) (s.size - 1)).data.toList 47
  have hin : ∀ k, beg s ≤ k → k < s.size - 1 → ∀ (hk : k < s.size), (s.extract (beg s) (s.size - 1)).data.toList[k - beg s]? = some s[k] := by
    intro k h2 h3 hk
    rw [ext_get s (beg s) (s.size - 1) (k - beg s) (by omega) (by omega)]
    congr 2
    omega
  have h47 : ∀ k (hk : k < s.size), gD (s8 s) k = 47 ↔ s[k] = 47 := by
    intro k hk
    rw [gD_s8 s k hk]
    constructor
    · intro h
      apply UInt8.toNat.inj
      show s[k].toNat = 47
      omega
    · intro h; rw [h]; rfl
  by_cases hn : slashI s = -1
  · left
    refine ⟨hn, ?_⟩
    rintro k ⟨a, b, c, d, e⟩
    have := Lib.indexByte_none hn (k - beg s)
    rw [hin k (by omega) (by omega) (by omega), (h47 k (by omega)).1 e] at this
    exact this rfl
  · right
    obtain ⟨o, ho⟩ : ∃ o : Nat, slashI s = o := ⟨(slashI s).toNat, by unfold slashI idx at hn ⊢; omega⟩
    obtain ⟨g1, g2⟩ := Lib.indexByte_some (c := 47) ho
    have hlt : o < s.size - 1 - beg s := by
      have := (List.getElem?_eq_some_iff.1 g1).1
      rw [ByteArray.data_extract, Array.toList_extract] at this
      simp at this
      omega
    have hno : ∀ j, j < beg s + o → ¬ SpAt s j := by
      rintro j hj ⟨a, b, c, d, e⟩
      have := g2 (j - beg s) (by omega)
      rw [hin j (by omega) (by omega) (by omega), (h47 j (by omega)).1 e] at this
      exact this rfl
    refine ⟨o, ho, by omega, by omega, ?_⟩
    by_cases h155 : beg s + o ≤ 155
    · right
      refine ⟨h155, ⟨by omega, h155, by omega, by omega, ?_⟩, hno⟩
      rw [h47 (beg s + o) (by omega)]
      have := ext_get s (beg s) (s.size - 1) o (by omega) (by omega)
      rw [g1] at this
      exact (Option.some.inj this).symm
    · left
      refine ⟨by omega, fun k hk => ?_⟩
      have := hk.2.1
      exact hno k (by omega) hk


set_option maxHeartbeats 1000000 in
theorem split_long1 (s : ByteArray) (w : World) (hE : s.toList.isEmpty = false) (hN : hasN s = false) (h1 : 100 < s.size) (h2 : s.size ≤ 3000) (hc : s.size ≤ 102) (hB : (beg s : Int) = (1 : Int)) :
    Calls Tryd.prog 16 #[.string s] w fun e w' => ((e = .returned (.tuple #[.string ⟨#[]⟩, .string ⟨#[]⟩, .bool false]) ∧ ∀ k, ¬ SpAt s k) ∨ (∃ k, SpF s k ∧ e = .returned (.tuple #[.string (s.extract 0 k), .string (s.extract (k + 1) s.size), .bool true]))) ∧ Below w.heap.size w w' := by
  have q := hasNul_w s w
  rw [hN] at q
  have q2 := index35 (s.extract (beg s) (s.size - 1)) 47 w
  rw [show (47 : Int).toNat.toUInt8 = 47 from rfl] at q2
  rw [show idx (s.extract (beg s) (s.size - 1)) 47 = slashI s from rfl] at q2
  have hC := slash_case s h1
  have r1 := run_strcut w s ((1 : Int)) (↑s.size - 1 : Int) (by omega) (by omega) (by omega)
  rw [show ((1 : Int)).toNat = beg s by omega, show ((s.size : Int) - 1).toNat = s.size - 1 by omega] at r1
  generalize slashI s = I at *
  generalize s.extract (beg s) (s.size - 1) = X at *
  have HB : Hid ((beg s : Int) = (1 : Int)) := hB
  rcases hC with ⟨rfl, hno⟩ | ⟨o, rfl, hlt, hge, hC⟩
  · clear hB
    have HNO : Hid _ := hno
    clear hno
    go_enter Tryd.func16, Tryd.ntmps16
    go_wp2_with (first | (go_at_call 34; refine q.mono ?_; rintro e w' ⟨rfl, rfl⟩) | (go_at_call 35; refine q2.mono ?_; rintro e w' ⟨rfl, rfl⟩))
    go_ret3
    exact ⟨.inl ⟨rfl, HNO.out⟩, Below.refl _ _⟩
  · have l1 : (0 : Int) ≤ (1 : Int) + ↑o := by omega
    have l2 : (1 : Int) + (↑o : Int) ≤ ↑s.size := by omega
    have l3 : (0 : Int) ≤ (1 : Int) + ↑o + 1 := by omega
    have l4 : (1 : Int) + (↑o : Int) + 1 ≤ ↑s.size := by omega
    have hlo : ¬ (o : Int) < 0 := by omega
    rcases hC with ⟨h155, hno⟩ | ⟨h155, hF⟩
    · have l5 : (155 : Int) < (1 : Int) + ↑o := by omega
      have HNO : Hid _ := hno
      clear hno hB hlt hge h155
      go_enter Tryd.func16, Tryd.ntmps16
      go_wp2_with (first | (go_at_call 34; refine q.mono ?_; rintro e w' ⟨rfl, rfl⟩) | (go_at_call 35; refine q2.mono ?_; rintro e w' ⟨rfl, rfl⟩))
      all_goals go_ret3
      all_goals exact ⟨.inl ⟨rfl, HNO.out⟩, Below.refl _ _⟩
    · have l5 : ¬ (155 : Int) < (1 : Int) + ↑o := by omega
      have HF : Hid (SpF s (1 + o)) := by show SpF _ _; rw [show 1 + o = beg s + o by omega]; exact hF
      clear hF hB hlt hge h155
      go_enter Tryd.func16, Tryd.ntmps16
      go_wp2_with (first | (go_at_call 34; refine q.mono ?_; rintro e w' ⟨rfl, rfl⟩) | (go_at_call 35; refine q2.mono ?_; rintro e w' ⟨rfl, rfl⟩))
      go_region
      go_wp2
      go_ret3
      exact ⟨.inr ⟨_, HF.out, rfl⟩, (Below.refl _ _).drew⟩

set_option maxHeartbeats 1000000 in
theorem split_long2 (s : ByteArray) (w : World) (hE : s.toList.isEmpty = false) (hN : hasN s = false) (h1 : 100 < s.size) (h2 : s.size ≤ 3000) (hc : 102 < s.size) (hB : (beg s : Int) = ((s.size : Int) - 100 - 1)) :
    Calls Tryd.prog 16 #[.string s] w fun e w' => ((e = .returned (.tuple #[.string ⟨#[]⟩, .string ⟨#[]⟩, .bool false]) ∧ ∀ k, ¬ SpAt s k) ∨ (∃ k, SpF s k ∧ e = .returned (.tuple #[.string (s.extract 0 k), .string (s.extract (k + 1) s.size), .bool true]))) ∧ Below w.heap.size w w' := by
  have q := hasNul_w s w
  rw [hN] at q
  have q2 := index35 (s.extract (beg s) (s.size - 1)) 47 w
  rw [show (47 : Int).toNat.toUInt8 = 47 from rfl] at q2
  rw [show idx (s.extract (beg s) (s.size - 1)) 47 = slashI s from rfl] at q2
  have hC := slash_case s h1
  have r1 := run_strcut w s (((s.size : Int) - 100 - 1)) (↑s.size - 1 : Int) (by omega) (by omega) (by omega)
  rw [show (((s.size : Int) - 100 - 1)).toNat = beg s by omega, show ((s.size : Int) - 1).toNat = s.size - 1 by omega] at r1
  generalize slashI s = I at *
  generalize s.extract (beg s) (s.size - 1) = X at *
  have HB : Hid ((beg s : Int) = ((s.size : Int) - 100 - 1)) := hB
  rcases hC with ⟨rfl, hno⟩ | ⟨o, rfl, hlt, hge, hC⟩
  · clear hB
    have HNO : Hid _ := hno
    clear hno
    go_enter Tryd.func16, Tryd.ntmps16
    go_wp2_with (first | (go_at_call 34; refine q.mono ?_; rintro e w' ⟨rfl, rfl⟩) | (go_at_call 35; refine q2.mono ?_; rintro e w' ⟨rfl, rfl⟩))
    go_ret3
    exact ⟨.inl ⟨rfl, HNO.out⟩, Below.refl _ _⟩
  · have l1 : (0 : Int) ≤ ((s.size : Int) - 100 - 1) + ↑o := by omega
    have l2 : ((s.size : Int) - 100 - 1) + (↑o : Int) ≤ ↑s.size := by omega
    have l3 : (0 : Int) ≤ ((s.size : Int) - 100 - 1) + ↑o + 1 := by omega
    have l4 : ((s.size : Int) - 100 - 1) + (↑o : Int) + 1 ≤ ↑s.size := by omega
    have hlo : ¬ (o : Int) < 0 := by omega
    rcases hC with ⟨h155, hno⟩ | ⟨h155, hF⟩
    · have l5 : (155 : Int) < ((s.size : Int) - 100 - 1) + ↑o := by omega
      have HNO : Hid _ := hno
      clear hno hB hlt hge h155
      go_enter Tryd.func16, Tryd.ntmps16
      go_wp2_with (first | (go_at_call 34; refine q.mono ?_; rintro e w' ⟨rfl, rfl⟩) | (go_at_call 35; refine q2.mono ?_; rintro e w' ⟨rfl, rfl⟩))
      all_goals go_ret3
      all_goals exact ⟨.inl ⟨rfl, HNO.out⟩, Below.refl _ _⟩
    · have l5 : ¬ (155 : Int) < ((s.size : Int) - 100 - 1) + ↑o := by omega
      have HF : Hid (SpF s ((s.size - 100 - 1) + o)) := by show SpF _ _; rw [show (s.size - 100 - 1) + o = beg s + o by omega]; exact hF
      clear hF hB hlt hge h155
      go_enter Tryd.func16, Tryd.ntmps16
      go_wp2_with (first | (go_at_call 34; refine q.mono ?_; rintro e w' ⟨rfl, rfl⟩) | (go_at_call 35; refine q2.mono ?_; rintro e w' ⟨rfl, rfl⟩))
      go_region
      go_wp2
      go_ret3
      exact ⟨.inr ⟨_, HF.out, rfl⟩, (Below.refl _ _).drew⟩

theorem split_long (s : ByteArray) (w : World) (hE : s.toList.isEmpty = false) (hN : hasN s = false) (h1 : 100 < s.size) (h2 : s.size ≤ 3000) :
    Calls Tryd.prog 16 #[.string s] w fun e w' => ((e = .returned (.tuple #[.string ⟨#[]⟩, .string ⟨#[]⟩, .bool false]) ∧ ∀ k, ¬ SpAt s k) ∨ (∃ k, SpF s k ∧ e = .returned (.tuple #[.string (s.extract 0 k), .string (s.extract (k + 1) s.size), .bool true]))) ∧ Below w.heap.size w w' := by
  have hB : beg s = max 1 (s.size - 101) := rfl
  by_cases c : s.size ≤ 102
  · exact split_long1 s w hE hN h1 h2 c (by rw [hB]; omega)
  · exact split_long2 s w hE hN h1 h2 (by omega) (by rw [hB]; omega)

/-- a text up to its first byte 0 -/
def txS (s : ByteArray) : ByteArray := strOf (txt (s8 s))

theorem txt_cut : ∀ (l : List Int) (k : Nat), (∀ j, j < k → gD l j ≠ 0) → k ≤ l.length → (k = l.length ∨ gD l k = 0) → txt l = l.take k
  | [], k, _, hk, _ => by simp [txt]
  | z :: l, 0, _, _, h => by
    have : z = 0 := by
      rcases h with h | h
      · simp at h
      · simpa [gD] using h
    simp [txt, this]
  | z :: l, k + 1, hj, hk, h => by
    have h0 : z ≠ 0 := by simpa [gD] using hj 0 (by omega)
    have ih := txt_cut l k (fun j hlt => by simpa [gD] using hj (j + 1) (by omega)) (by simpa using hk) (by
      rcases h with h | h
      · left; simpa using h
      · right; simpa [gD] using h)
    unfold txt at ih ⊢
    rw [List.takeWhile_cons, if_pos (by simpa using h0), ih, List.take_succ_cons]

theorem txS_at (s : ByteArray) (k : Nat) (hk : k ≤ s.size) (hj : ∀ j, j < k → gD (s8 s) j ≠ 0) (h : k = s.size ∨ gD (s8 s) k = 0) : txS s = s.extract 0 k := by
  unfold txS
  rw [txt_cut (s8 s) k hj (by rw [s8_length]; exact hk) (by rw [s8_length]; exact h)]
  symm
  apply strOf_ext
  rw [List.map_take, s8_map, ByteArray.data_extract]
  simp

theorem ext_all (s : ByteArray) : s.extract 0 s.size = s := by
  apply ByteArray.ext
  simp [ByteArray.data_extract]

set_option maxHeartbeats 1000000 in
theorem text_w (s : ByteArray) (w : World) (hs : s.size ≤ 3000) : Calls Tryd.prog 27 #[.string s] w fun e w' => e = .returned (.string (txS s)) ∧ w = w' := by
  go_enter Tryd.func27, Tryd.ntmps27
  go_wp2
  go_loop [3] (fun i => ∃ k : Nat, k ≤ s.size ∧ i = .int .i64 k ∧ Hid (∀ j, j < k → gD (s8 s) j ≠ 0)) (fun i => s.size - (intOf i).toNat)
  case atStart => exact ⟨0, Nat.zero_le _, rfl, fun j hj => by omega⟩
  case round =>
    obtain ⟨k, hk, rfl, HJ⟩ := hrel
    by_cases hlt : k < s.size
    · have hg := gD_s8 s k hlt
      by_cases hz : (s[k].toNat : Int) = 0
      · have HX : Hid (txS s = s.extract 0 k) := txS_at s k hk HJ.out (.inr (by rw [hg]; exact hz))
        clear hg
        have hz2 : ((s[k].toNat : Int) == 0) = true := by simpa using hz
        go_wp2
        all_goals go_ret
        all_goals exact ⟨by rw [HX.out]; rfl, rfl⟩
      · have HJ' : Hid (∀ j, j < k + 1 → gD (s8 s) j ≠ 0) := fun j hj => by
          by_cases c : j = k
          · subst c; rw [hg]; exact hz
          · exact HJ.out j (by omega)
        clear hg
        have hz2 : ((s[k].toNat : Int) == 0) = false := by simpa using hz
        go_wp2
        go_round
        case rel => exact ⟨k + 1, by omega, by go_num, HJ'⟩
        case measure => simp [intOf]; omega
    · have HX : Hid (txS s = s) := by
        show _ = _
        rw [txS_at s s.size (Nat.le_refl _) (fun j hj => HJ.out j (by omega)) (.inl rfl), ext_all]
      go_wp2
      go_ret
      exact ⟨by rw [HX.out]; rfl, rfl⟩

end Go.Proofs.YtmholjjicklnhabDoor
