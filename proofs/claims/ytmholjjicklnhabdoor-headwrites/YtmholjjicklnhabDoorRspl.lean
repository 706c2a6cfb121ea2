/-
  Contract: pannierref06.Split.
-/
import Derived.Test.YtmholjjicklnhabDoorSpl
namespace Go.Proofs.YtmholjjicklnhabDoor
open Go.RowKit
set_option linter.unusedVariables false
set_option linter.unusedSimpArgs false

theorem txS_no (s : ByteArray) (h : hasN s = false) : txS s = s := by
  unfold txS
  have := txt_pad s 0 h
  simp at this
  rw [this, strOf_s8]

theorem beq_of_size {a b : ByteArray} (h : a.size ≠ b.size) : (a.toList == b.toList) = false := by
  rw [beq_eq_false_iff_ne]
  intro e
  rw [ByteArray.toList_eq, ByteArray.toList_eq] at e
  exact h (congrArg List.length e)

theorem txS_nul (s : ByteArray) (h : hasN s = true) : (txS s).size < s.size := by
  unfold txS
  rw [strOf_size]
  rcases idx_txt (s8 s) (s8_allB s) with ⟨h1, h2⟩ | ⟨i, h1, h2, h3⟩
  · rw [s8_map] at h1
    unfold hasN idx at h
    rw [h1] at h
    simp at h
  · rw [h3, List.length_take]
    rw [s8_length] at h2 ⊢
    omega

theorem rsplit_nul (s : ByteArray) (w : World) (h : s.toList.isEmpty = true ∨ hasN s = true) (hl : s.size ≤ 3000) :
    Calls Tryd.prog 17 #[.string s] w fun e w' => e = .returned (.tuple #[.string ⟨#[]⟩, .string ⟨#[]⟩, .bool false]) ∧ w = w' := by
  have q := text_w s w hl
  cases hE : s.toList.isEmpty with
  | true =>
    go_enter Tryd.func17, Tryd.ntmps17
    go_wp2
    go_ret3
    exact ⟨rfl, rfl⟩
  | false =>
    have hN : hasN s = true := by
      rcases h with h | h
      · rw [hE] at h; cases h
      · exact h
    have hb := beq_of_size (Nat.ne_of_lt (txS_nul s hN))
    have hb2 : ((txS s).toList != s.toList) = true := by simp [bne, hb]
    generalize txS s = t at *
    clear h hN
    go_enter Tryd.func17, Tryd.ntmps17
    go_wp2_with (go_at_call 27; refine q.mono ?_; rintro e w' ⟨rfl, rfl⟩)
    go_ret3
    exact ⟨rfl, rfl⟩

theorem rsplit_short (s : ByteArray) (w : World) (hE : s.toList.isEmpty = false) (hN : hasN s = false) (hl : s.size ≤ 100) :
    Calls Tryd.prog 17 #[.string s] w fun e w' => e = .returned (.tuple #[.string ⟨#[]⟩, .string s, .bool true]) ∧ w = w' := by
  have q := text_w s w (by omega)
  rw [txS_no s hN] at q
  have c1 : (s.size : Int) ≤ 100 := by omega
  clear hN
  go_enter Tryd.func17, Tryd.ntmps17
  go_wp2_with (go_at_call 27; refine q.mono ?_; rintro e w' ⟨rfl, rfl⟩)
  go_ret3
  exact ⟨rfl, rfl⟩

set_option maxHeartbeats 2000000 in
theorem rsplit_long (s : ByteArray) (w : World) (hE : s.toList.isEmpty = false) (hN : hasN s = false) (h1 : 100 < s.size) (h2 : s.size ≤ 3000) :
    Calls Tryd.prog 17 #[.string s] w fun e w' => ((e = .returned (.tuple #[.string ⟨#[]⟩, .string ⟨#[]⟩, .bool false]) ∧ ∀ k, ¬ SpAt s k) ∨ (∃ k, SpF s k ∧ e = .returned (.tuple #[.string (s.extract 0 k), .string (s.extract (k + 1) s.size), .bool true]))) ∧ Below w.heap.size w w' := by
  have q := text_w s w (by omega)
  rw [txS_no s hN] at q
  have c1 : ¬ (s.size : Int) ≤ 100 := by omega
  clear hN
  go_enter Tryd.func17, Tryd.ntmps17
  go_wp2_with (go_at_call 27; refine q.mono ?_; rintro e w' ⟨rfl, rfl⟩)
  clear q
  go_loopw [5] (fun i wr => ∃ k : Nat, 1 ≤ k ∧ k ≤ s.size ∧ i = .int .i64 k ∧ wr = w ∧ Hid (∀ j, j < k → ¬ SpAt s j)) (fun i _ => s.size - (intOf i).toNat)
  case atStart => exact ⟨1, by omega, by omega, rfl, rfl, fun j hj hs => by have := hs.1; omega⟩
  case round =>
    obtain ⟨k, hk1, hk, rfl, rfl, HJ⟩ := hrel
    by_cases hin : k ≤ 155 ∧ k + 1 < s.size
    · obtain ⟨hi1, hi2⟩ := hin
      have hlt : k < s.size := by omega
      have hg := gD_s8 s k hlt
      have i1 : (k : Int) ≤ 155 := by omega
      have i2 : (k : Int) < (s.size : Int) - 1 := by omega
      by_cases hz : (s[k].toNat : Int) = 47
      · have hz2 : ((s[k].toNat : Int) == 47) = true := by simpa using hz
        by_cases hr : s.size ≤ k + 101
        · have HF : Hid (SpF s k) := ⟨⟨hk1, hi1, hi2, hr, by rw [hg]; exact hz⟩, HJ.out⟩
          have i3 : (s.size : Int) - ↑k - 1 ≤ 100 := by omega
          have l2 : (k : Int) ≤ ↑s.size := by omega
          have l4 : (k : Int) + 1 ≤ ↑s.size := by omega
          clear hg HJ
          go_wp2
          go_region
          go_wp2
          go_ret3
          exact ⟨.inr ⟨_, HF.out, rfl⟩, (Below.refl _ _).drew⟩
        · have HJ' : Hid (∀ j, j < k + 1 → ¬ SpAt s j) := fun j hj hs => by
            by_cases c : j = k
            · subst c; have := hs.2.2.2.1; omega
            · exact HJ.out j (by omega) hs
          have i3 : ¬ (s.size : Int) - ↑k - 1 ≤ 100 := by omega
          clear hg HJ
          go_wp2
          go_roundw
          case rel => exact ⟨k + 1, by omega, by omega, by go_num, by first | rfl | trivial, HJ'⟩
          case measure => simp [intOf]; omega
      · have hz2 : ((s[k].toNat : Int) == 47) = false := by simpa using hz
        have HJ' : Hid (∀ j, j < k + 1 → ¬ SpAt s j) := fun j hj hs => by
          by_cases c : j = k
          · subst c; have := hs.2.2.2.2; rw [hg] at this; exact hz this
          · exact HJ.out j (by omega) hs
        clear hg HJ
        go_wp2
        go_roundw
        case rel => exact ⟨k + 1, by omega, by omega, by go_num, by first | rfl | trivial, HJ'⟩
        case measure => simp [intOf]; omega
    · have HN : Hid (∀ j, ¬ SpAt s j) := fun j hs => by
        by_cases c : j < k
        · exact HJ.out j c hs
        · have a := hs.2.1; have b := hs.2.2.1; omega
      clear HJ
      by_cases hi1 : k ≤ 155
      · have i1 : (k : Int) ≤ 155 := by omega
        have i2 : ¬ (k : Int) < (s.size : Int) - 1 := by omega
        clear hin
        go_wp2
        go_ret3
        exact ⟨.inl ⟨rfl, HN.out⟩, Below.refl _ _⟩
      · have i1 : ¬ (k : Int) ≤ 155 := by omega
        clear hin
        go_wp2
        go_ret3
        exact ⟨.inl ⟨rfl, HN.out⟩, Below.refl _ _⟩

theorem spF_eq {s : ByteArray} {j k : Nat} (h1 : SpF s j) (h2 : SpF s k) : j = k := by
  rcases Nat.lt_trichotomy j k with h | h | h
  · exact absurd h1.1 (h2.2 j h)
  · exact h
  · exact absurd h2.1 (h1.2 k h)

end Go.Proofs.YtmholjjicklnhabDoor
