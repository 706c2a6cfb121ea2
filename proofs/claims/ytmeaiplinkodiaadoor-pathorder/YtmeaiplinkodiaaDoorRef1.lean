/-
  Contracts: the document's Sound, Split, Join.
-/
import Derived.Test.YtmeaiplinkodiaaDoorRef0
import Derived.Test.YtmeaiplinkodiaaDoorFns
namespace Go.Proofs.YtmeaiplinkodiaaDoor
open Go.RowKit
open Go.Lib hiding intOf
set_option linter.unusedVariables false
set_option linter.unusedSimpArgs false

theorem nul_take (L : List UInt8) (i : Nat) (hi : i < L.length) (h : 0 ∉ L.take i) (hx : L[i] ≠ 0) : 0 ∉ L.take (i + 1) := by
  rw [List.take_succ_eq_append_getElem hi]
  simp only [List.mem_append, List.mem_singleton, not_or]
  exact ⟨h, fun e => hx e.symm⟩

set_option maxHeartbeats 2000000 in
theorem rsound_b (s : ByteArray) (hl : s.size ≤ 9223372036854775807) (w : World) :
    Calls Tryd.prog 14 #[.string s] w fun e w' => e = .returned (.int .i64 (snd0 s.data.toList)) ∧ w' = w := by
  have HZ : Hid (s.data.toList.length = s.size) := (Lib.size_eq s).symm
  have tl := Lib.toList_data s
  by_cases c1 : s.data.toList = []
  · have hE : s.toList.isEmpty = true := by rw [tl, c1]; rfl
    have HF : Hid (snd0 s.data.toList = 100) := hid (by unfold snd0; rw [if_pos c1])
    clear c1 tl
    go_enter Tryd.func14, Tryd.ntmps14
    go_wp2_with fail
    go_ret
    exact ⟨by rw [HF.out]; rfl, rfl⟩
  have hE : s.toList.isEmpty = false := by rw [tl]; simpa using c1
  clear tl
  by_cases c2 : 4000 < s.size
  · have HF : Hid (snd0 s.data.toList = 2) := hid (by unfold snd0; rw [if_neg c1, if_pos (by rw [HZ.out]; exact c2)])
    clear c1
    go_enter Tryd.func14, Tryd.ntmps14
    go_wp2_with fail
    go_ret
    exact ⟨by rw [HF.out]; rfl, rfl⟩
  have hpos : 0 < s.size := by rw [← HZ.out]; exact List.length_pos_iff.2 c1
  have qu := utf8_w s (by omega) w
  have HS : Hid (snd0 s.data.toList = if 0 ∈ s.data.toList then 101 else if validD s.data.toList = false then 102 else if s.data.toList.head? = some 47 then 103 else 0) := hid (by unfold snd0; rw [if_neg c1, if_neg (by rw [HZ.out]; omega)])
  have hh : s.data.toList.head? = some (s[0]'hpos) := by
    rw [List.head?_eq_getElem?, Lib.data_getElem? s 0 hpos]
  obtain ⟨x0, hx0⟩ : ∃ x : UInt8, s[0]'hpos = x := ⟨_, rfl⟩
  rw [hx0] at hh
  have HH : Hid (s.data.toList.head? = some x0) := hh
  clear hh c1
  go_enter Tryd.func14, Tryd.ntmps14
  go_wp2_with fail
  go_loop [3] (fun t => ∃ i : Nat, i ≤ s.size ∧ t = .int .i64 i ∧ Hid (0 ∉ s.data.toList.take i)) (fun t => s.size - (RowKit.intOf t).toNat)
  case atStart => exact ⟨0, Nat.zero_le _, rfl, by simp [Hid]⟩
  case round =>
    obtain ⟨i, hi, rfl, H⟩ := hrel
    by_cases hlt : i < s.size
    · have hL : i < s.data.toList.length := by rw [HZ.out]; exact hlt
      obtain ⟨x, hx⟩ : ∃ x : UInt8, s[i]'hlt = x := ⟨_, rfl⟩
      have hxl : s.data.toList[i] = x := by rw [← hx]; rfl
      by_cases h0 : x = 0
      · have HF : Hid (snd0 s.data.toList = 101) := hid (by rw [HS.out, if_pos (by rw [← h0, ← hxl]; exact List.getElem_mem hL)])
        have e0 : ((x.toNat : Nat) : Int) = 0 := by rw [h0]; rfl
        have e1 : (((x.toNat : Nat) : Int) == 0) = true := beq_iff_eq.2 e0
        clear hxl hL h0
        go_wp2_with fail
        go_ret
        exact ⟨by rw [HF.out]; rfl, rfl⟩
      · have H2 : Hid (0 ∉ s.data.toList.take (i + 1)) := hid (nul_take _ i hL H.out (by rw [hxl]; exact h0))
        have e0 : ¬ ((x.toNat : Nat) : Int) = 0 := fun e => h0 (UInt8.toNat_inj.1 (show x.toNat = 0 by omega))
        have e1 := beq_eq_false_iff_ne.2 e0
        clear hxl hL h0
        go_wp2_with fail
        go_round
        case rel => exact ⟨i + 1, by omega, by simp, H2⟩
        case measure => simp [RowKit.intOf]; omega
    · have hn := H.out
      rw [List.take_of_length_le (by rw [HZ.out]; omega)] at hn
      have HS2 := HS.out
      rw [if_neg hn] at HS2
      cases hv : validD s.data.toList with
      | false =>
        rw [hv] at qu HS2
        have HF : Hid (snd0 s.data.toList = 102) := hid (by rw [HS2, if_pos rfl])
        clear HS2 hv hn
        go_wp2_with (go_at_call 26; refine qu.mono ?_; rintro e w' ⟨rfl, hw⟩; rw [hw])
        go_ret
        exact ⟨by rw [HF.out]; rfl, rfl⟩
      | true =>
        rw [hv] at qu HS2
        rw [if_neg (by simp), HH.out] at HS2
        clear hv hn
        by_cases h47 : x0 = 47
        · have HF : Hid (snd0 s.data.toList = 103) := hid (by rw [HS2, h47]; rfl)
          have e0 : ((x0.toNat : Nat) : Int) = 47 := by rw [h47]; rfl
          have e1 : (((x0.toNat : Nat) : Int) == 47) = true := beq_iff_eq.2 e0
          clear HS2 h47
          go_wp2_with (go_at_call 26; refine qu.mono ?_; rintro e w' ⟨rfl, hw⟩; rw [hw])
          go_ret
          exact ⟨by rw [HF.out]; rfl, rfl⟩
        · have HF : Hid (snd0 s.data.toList = 0) := hid (by rw [HS2, if_neg (by simpa using h47)])
          have e0 : ¬ ((x0.toNat : Nat) : Int) = 47 := fun e => h47 (UInt8.toNat_inj.1 (show x0.toNat = 47 by omega))
          have e1 := beq_eq_false_iff_ne.2 e0
          clear HS2 h47
          go_wp2_with (go_at_call 26; refine qu.mono ?_; rintro e w' ⟨rfl, hw⟩; rw [hw])
          go_ret
          exact ⟨by rw [HF.out]; rfl, rfl⟩

theorem rsound_w (l : List UInt8) (hl : l.length ≤ 9223372036854775807) (w : World) :
    Calls Tryd.prog 14 #[.string (bs l)] w fun e w' => e = .returned (.int .i64 (snd0 l)) ∧ w' = w := by
  have := rsound_b (bs l) (by rw [bs_size]; exact hl) w
  rwa [bs_data] at this

end Go.Proofs.YtmeaiplinkodiaaDoor
