/-
  Contracts: block.within, (*Arena).held, Holds, Free, Len, Hold: which turn nothing, or one number.
-/
import Derived.Test.YtpjfhfbjdcgbjaaArena
namespace Go.Proofs.Ytpjfhfbjdcgbjaa
open Go.RowKit
set_option linter.unusedVariables false
set_option linter.unusedSimpArgs false

/-- no block of that number is held -/
def Gone (ss : List Slot) (id : Int) : Prop := ∀ (i : Nat) (s : Slot), id = (i : Int) → ss[i]? = some s → s.holds = 0

def inside (at_ n : Int) : Bool := decide (0 ≤ at_ ∧ at_ ≤ 64 ∧ 0 ≤ n ∧ n ≤ 64 - at_)

theorem within_w (a n : Int) (w : World) (ha : -9223372036854775808 ≤ a ∧ a ≤ 9223372036854775807) (hn : -9223372036854775808 ≤ n ∧ n ≤ 9223372036854775807) :
    Calls Try.prog 20 #[.int .i64 a, .int .i64 n] w fun e w' => e = .returned (.bool (inside a n)) ∧ w = w' := by
  by_cases c1 : 0 ≤ a
  · by_cases c2 : a ≤ 64
    · by_cases c3 : 0 ≤ n
      · go_enter Try.func20, Try.ntmps20
        go_wp2
        go_ret
        exact ⟨by simp [inside, c1, c2, c3], rfl⟩
      · go_enter Try.func20, Try.ntmps20
        go_wp2
        go_ret
        exact ⟨by simp [inside, c1, c2]; omega, rfl⟩
    · go_enter Try.func20, Try.ntmps20
      go_wp2
      go_ret
      exact ⟨by simp [inside]; omega, rfl⟩
  · go_enter Try.func20, Try.ntmps20
    go_wp2
    go_ret
    exact ⟨by simp [inside]; omega, rfl⟩

section
variable {w : World} {p S F : Nat} {ss : List Slot} {fr : List Nat}

theorem held_yes (h : Ar w p S F ss fr) (i : Nat) (s : Slot) (hi : ss[i]? = some s) (hh : s.holds ≠ 0) :
    Calls Try.prog 19 #[.pointer (some ⟨p, 0, none⟩), .int .i64 (i : Int)] w fun e w' => e = .returned (.pointer (some ⟨S, i * 65, none⟩)) ∧ w = w' := by
  have h0 := h.slots
  have h1 := h.holds hi
  have h2 := lt_of_some hi
  have h3 := h.good.small
  generalize ss.length = n at *
  generalize s.holds = k at *
  have h4 : ((k : Int) == 0) = false := by simp [hh]
  clear h hi
  go_enter Try.func19, Try.ntmps19
  go_wp2
  go_ret
  exact ⟨rfl, rfl⟩

theorem held_no (h : Ar w p S F ss fr) (id : Int) (hi : Gone ss id) :
    Calls Try.prog 19 #[.pointer (some ⟨p, 0, none⟩), .int .i64 id] w fun e w' => e = .returned (.pointer none) ∧ w = w' := by
  have h0 := h.slots
  have h3 := h.good.small
  by_cases c0 : id < 0
  · clear h hi
    go_enter Try.func19, Try.ntmps19
    go_wp2
    go_ret
    exact ⟨rfl, rfl⟩
  · obtain ⟨i, rfl⟩ : ∃ i : Nat, id = i := ⟨id.toNat, by omega⟩
    by_cases c1 : i < ss.length
    · have hs : ss[i]? = some ss[i] := by simp [c1]
      have h1 := h.holds hs
      rw [hi i _ rfl hs] at h1
      clear h hi hs
      generalize ss.length = n at *
      go_enter Try.func19, Try.ntmps19
      go_wp2
      go_ret
      exact ⟨rfl, rfl⟩
    · generalize ss.length = n at *
      have c2 : n ≤ i := by omega
      clear h hi
      go_enter Try.func19, Try.ntmps19
      go_wp2
      go_ret
      exact ⟨rfl, rfl⟩

theorem holds_yes (h : Ar w p S F ss fr) (i : Nat) (s : Slot) (hi : ss[i]? = some s) (hh : s.holds ≠ 0) :
    Calls Try.prog 18 #[.pointer (some ⟨p, 0, none⟩), .int .i64 (i : Int)] w fun e w' => e = .returned (.int .i64 (s.holds : Int)) ∧ w = w' := by
  have h1 := h.holds hi
  have hc := held_yes h i s hi hh
  clear h hi
  go_enter Try.func18, Try.ntmps18
  go_wp2_with (go_at_call 19; refine hc.mono ?_; rintro e w' ⟨rfl, rfl⟩)
  go_ret
  exact ⟨rfl, rfl⟩

theorem holds_no (h : Ar w p S F ss fr) (id : Int) (hi : Gone ss id) :
    Calls Try.prog 18 #[.pointer (some ⟨p, 0, none⟩), .int .i64 id] w fun e w' => e = .returned (.int .i64 0) ∧ w = w' := by
  have hc := held_no h id hi
  clear h hi
  go_enter Try.func18, Try.ntmps18
  go_wp2_with (go_at_call 19; refine hc.mono ?_; rintro e w' ⟨rfl, rfl⟩)
  go_ret
  exact ⟨rfl, rfl⟩

theorem free_w (h : Ar w p S F ss fr) :
    Calls Try.prog 16 #[.pointer (some ⟨p, 0, none⟩)] w fun e w' => e = .returned (.int .i64 (fr.length : Int)) ∧ w = w' := by
  have h0 := h.free
  clear h
  go_enter Try.func16, Try.ntmps16
  go_wp2
  go_ret
  exact ⟨rfl, rfl⟩

theorem len_w (h : Ar w p S F ss fr) :
    Calls Try.prog 17 #[.pointer (some ⟨p, 0, none⟩)] w fun e w' => e = .returned (.int .i64 (ss.length : Int)) ∧ w = w' := by
  have h0 := h.slots
  clear h
  go_enter Try.func17, Try.ntmps17
  go_wp2
  go_ret
  exact ⟨rfl, rfl⟩

/-- one slot's number turned -/
theorem Ar.set_holds (h : Ar w p S F ss fr) (i : Nat) (s : Slot) (hi : ss[i]? = some s) (n : Nat) {fr' : List Nat} (hg : Good (ss.set i ⟨s.bytes, n⟩) fr) : Ar (w.setCell ⟨S, i * 65 + 64, none⟩ (.int .i64 (n : Int))) p S F (ss.set i ⟨s.bytes, n⟩) fr := by
  obtain ⟨j, hj, hl⟩ := h.list
  have e := setCell_eq_setRow w S (i * 65 + 64) _ _ _ (.int .i64 (n : Int)) h.row
  rw [e]
  refine ⟨?_, ?_, ⟨j, ?_, ?_⟩, h.pS, h.pF, h.SF, hg⟩
  · rw [setRow_other _ _ _ _ h.pS, h.head]; simp
  · rw [setRow_heap w S _ _ _ _ h.row]
    simp only [List.setIfInBounds_toArray]
    rw [show i * 65 + 64 = 65 * i + 64 by omega, row_set_holds ss i s hi h.good.whole n]
  · rw [setRow_other _ _ _ _ h.SF.symm]; exact hj
  · simpa using hl

theorem hold_yes (h : Ar w p S F ss fr) (i : Nat) (s : Slot) (hi : ss[i]? = some s) (hh : s.holds ≠ 0) (hm : s.holds < 1073741824) :
    Calls Try.prog 13 #[.pointer (some ⟨p, 0, none⟩), .int .i64 (i : Int)] w fun e w' => e = .returned (.int .i64 0) ∧ Ar w' p S F (ss.set i ⟨s.bytes, s.holds + 1⟩) fr ∧ Keeps p S F w w' := by
  have h1 := h.holds hi
  have hf := h.frozen ⟨S, i * 65 + 64, none⟩ (by simp)
  have hc := held_yes h i s hi hh
  have hA := h.set_holds i s hi (s.holds + 1) (fr' := fr) (h.good.set_held hi hh (by simp) (by show s.holds + 1 ≤ _; omega) (h.good.whole s (mem_of_some hi)))
  have hK : Keeps p S F w (w.setCell ⟨S, i * 65 + 64, none⟩ (.int .i64 ((s.holds + 1 : Nat) : Int))) := (Keeps.refl p S F w).setCell (by simp) _
  have hm' : ((s.holds : Int) == 1073741824) = false := by simp; omega
  generalize hk : s.holds = k at *
  generalize ss.set i ⟨s.bytes, k + 1⟩ = ss' at *
  clear h hi hk
  go_enter Try.func13, Try.ntmps13
  go_wp2_with (go_at_call 19; refine hc.mono ?_; rintro e w' ⟨rfl, rfl⟩)
  go_ret
  exact ⟨rfl, hA, hK⟩

theorem hold_full (h : Ar w p S F ss fr) (i : Nat) (s : Slot) (hi : ss[i]? = some s) (hm : s.holds = 1073741824) :
    Calls Try.prog 13 #[.pointer (some ⟨p, 0, none⟩), .int .i64 (i : Int)] w fun e w' => e = .returned (.int .i64 3) ∧ w = w' := by
  have h1 := h.holds hi
  have hc := held_yes h i s hi (by omega)
  rw [hm] at h1
  clear h hi
  go_enter Try.func13, Try.ntmps13
  go_wp2_with (go_at_call 19; refine hc.mono ?_; rintro e w' ⟨rfl, rfl⟩)
  go_ret
  exact ⟨rfl, rfl⟩

theorem hold_no (h : Ar w p S F ss fr) (id : Int) (hi : Gone ss id) :
    Calls Try.prog 13 #[.pointer (some ⟨p, 0, none⟩), .int .i64 id] w fun e w' => e = .returned (.int .i64 4) ∧ w = w' := by
  have hc := held_no h id hi
  clear h hi
  go_enter Try.func13, Try.ntmps13
  go_wp2_with (go_at_call 19; refine hc.mono ?_; rintro e w' ⟨rfl, rfl⟩)
  go_ret
  exact ⟨rfl, rfl⟩
end

end Go.Proofs.Ytpjfhfbjdcgbjaa
