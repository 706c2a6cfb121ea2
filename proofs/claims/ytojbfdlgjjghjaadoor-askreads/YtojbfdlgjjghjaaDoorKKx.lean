/-
  The document's answer for a line: its number, whole.
-/
import Derived.Test.YtojbfdlgjjghjaaDoorKKw
namespace Go.Proofs.YtojbfdlgjjghjaaDoor.K
open Go.RowKit
open Go.Lib hiding intOf
set_option linter.unusedVariables false
set_option linter.unusedSimpArgs false

theorem idx_at (s : ByteArray) (i : Nat) (hi : i < s.data.toList.length) (W : World) : (Instr.index 9 (.string s) (.int .i64 (i : Int))).run Tryd.prog W = .ok (.int .u8 ((s.data.toList[i]).toNat : Int)) W := by
  have hi2 : i < s.size := hi
  rw [run_index_string W 9 s .i64 (i : Int) Tryd.underlying9, dif_pos ⟨by omega, by omega⟩]
  have gt : ∀ j (hj : j < s.data.toList.length) (hj2 : j < s.size), s[j]'hj2 = s.data.toList[j]'hj := fun j hj hj2 => by simp [ByteArray.getElem_eq_getElem_data]
  simp only [Int.toNat_natCast]
  rw [gt i hi]

/-- what stands behind the document's loop over digits -/
theorem num_end' {s : ByteArray} (h0 : 0 < s.size) (hb : s.size = 1 ∨ s.data.toList.head? ≠ some 48) (hd : ∀ x ∈ s.data.toList, 48 ≤ x.toNat ∧ x.toNat ≤ 57) : Can s.data.toList :=
  ⟨fun e => by have : s.data.toList.length = s.size := rfl; rw [e] at this; simp at this; omega, hb, hd⟩
theorem num_long {s : ByteArray} (hc : Can s.data.toList) (h : 18 < s.size) : numV s = .tuple #[.int .i64 0, .int .i64 (if 9223372036854775807 < dv 0 s.data.toList then 200 else 1)] := by
  have hl : s.data.toList.length = s.size := rfl
  have hbig : 1048576 < dv 0 s.data.toList := by
    have hc2 := hc
    cases hq : s.data.toList with
    | nil => exact absurd hq hc.1
    | cons x r =>
      rw [hq] at hc hl
      have hx := hc.2.2 x (by simp)
      have h1 := dv_low r (10 * 0 + (x.toNat - 48))
      rw [dv_cons]
      have hx9 : 49 ≤ x.toNat := by
        rcases hc.2.1 with q | q
        · simp at q hl; subst q; simp at hl; omega
        · have : x ≠ 48 := fun e => q (by rw [e]; rfl)
          have : ¬ x.toNat = 48 := fun e => this (UInt8.toNat_inj.mp e)
          omega
      have h2 : 10 ^ 18 ≤ 10 ^ r.length := Nat.pow_le_pow_right (by omega) (by simp at hl; omega)
      have h3 : 1 * 10 ^ r.length ≤ (10 * 0 + (x.toNat - 48)) * 10 ^ r.length := Nat.mul_le_mul_right _ (by omega)
      show 1048576 < dv (10 * 0 + (x.toNat - 48)) r
      omega
  unfold numV
  rw [numP_can hc]
  by_cases c : 9223372036854775807 < dv 0 s.data.toList
  · rw [if_pos c, if_pos c]
  · rw [if_neg c, if_neg c, if_pos hbig]
theorem num_short {s : ByteArray} (hc : Can s.data.toList) (h : ¬ 18 < s.size) (n : Nat) (hn : Cap n s.data.toList) : numV s = if 1048576 < n then .tuple #[.int .i64 0, .int .i64 1] else .tuple #[.int .i64 n, .int .i64 0] := by
  have hl : s.data.toList.length = s.size := rfl
  have h1 := dv_high s.data.toList 0 hc.2.2
  have h2 : 10 ^ s.data.toList.length ≤ 10 ^ 18 := Nat.pow_le_pow_right (by omega) (by omega)
  have h3 : dv 0 s.data.toList < 10 ^ 18 := by omega
  unfold numV
  rw [numP_can hc, if_neg (by omega)]
  by_cases c : 1048576 < dv 0 s.data.toList
  · rw [if_pos c, if_pos (hn.2.1 c)]
  · rw [if_neg c]
    have := hn.1 (by omega)
    rw [if_neg (by omega), this]

set_option maxRecDepth 20000 in
set_option maxHeartbeats 4000000 in
/-- the document's number -/
theorem rnumber_w (s : ByteArray) (hs : s.size ≤ 281474976710656) (w : World) :
    Calls Tryd.prog 20 #[.string s] w fun e w' => e = .returned (numV s) ∧ w' = w := by
  have hl : s.data.toList.length = s.size := rfl
  have hz := arr_eta s
  by_cases h0 : s.size = 0
  · have hnil : s.data.toList = [] := List.eq_nil_of_length_eq_zero (by rw [hl]; exact h0)
    have hv : numV s = .tuple #[.int .i64 0, .int .i64 200] := by unfold numV; rw [numP_not fun h => h.1 hnil]
    rw [hnil] at hz
    rw [hv, ← hz]
    clear hv hnil hz hl hs h0
    go_enter Tryd.func20, Tryd.ntmps20
    go_wp2_with fail
    go_ret2
    exact ⟨rfl, rfl⟩
  · have hE : s.toList.isEmpty = false := by
      rw [ByteArray.toList_eq]
      cases hq : s.data.toList with
      | nil => rw [hq] at hl; simp at hl; omega
      | cons x r => rfl
    have hi0 : 0 < s.data.toList.length := by omega
    obtain ⟨x0, hx0⟩ : ∃ x, s.data.toList[0] = x := ⟨_, rfl⟩
    have hidx0 : ∀ W, (Instr.index 9 (.string s) (.int .i64 0)).run Tryd.prog W = .ok (.int .u8 (x0.toNat : Int)) W := fun W => by rw [← hx0]; exact idx_at s 0 hi0 W
    have hhead : s.data.toList.head? = some x0 := by rw [← hx0, List.head?_eq_getElem?, List.getElem?_eq_getElem hi0]
    have HB : ((1 : Int) < s.size ∧ (x0.toNat : Int) = 48) ∨ ((1 : Int) < s.size ∧ ¬ (x0.toNat : Int) = 48) ∨ ¬ (1 : Int) < s.size := by omega
    rcases HB with ⟨b1, b2⟩ | HB
    · have hv : numV s = .tuple #[.int .i64 0, .int .i64 200] := by
        unfold numV
        rw [numP_not fun h => ?_]
        rcases h.2.1 with q | q
        · rw [hl] at q; omega
        · refine q ?_
          rw [hhead, show x0 = 48 from UInt8.toNat_inj.mp (by rw [show (48 : UInt8).toNat = 48 from rfl]; omega)]
      rw [hv]
      clear hv hhead hx0 hi0 hz hl h0
      go_enter Tryd.func20, Tryd.ntmps20
      go_wp2_with fail
      go_ret2
      exact ⟨rfl, rfl⟩
    · have hlead : Hid (s.size = 1 ∨ s.data.toList.head? ≠ some 48) := by
        rcases HB with ⟨b1, b2⟩ | b1
        · refine .inr fun e => b2 ?_
          rw [hhead] at e
          cases e
          rfl
        · exact .inl (by omega)
      have HZ : Hid (0 < s.size) := by show 0 < s.size; omega
      clear hhead hx0 hi0 hz h0
      rcases HB with ⟨b1, b2⟩ | b1
      all_goals
        go_enter Tryd.func20, Tryd.ntmps20
        go_wp2_with fail
        go_loopw [4, 5] (fun t4 t5 wr => ∃ i n : Nat, i ≤ s.size ∧ Hid (Cap n (s.data.toList.take i)) ∧ n ≤ 10485769 ∧ Hid (∀ x ∈ s.data.toList.take i, 48 ≤ x.toNat ∧ x.toNat ≤ 57) ∧ t4 = .int .i64 n ∧ t5 = .int .i64 i ∧ wr = w) (fun _ t5 _ => s.size - (intOf t5).toNat)
        case atStart => exact ⟨0, 0, by omega, ⟨fun _ => rfl, fun h => by simp [dv] at h, by omega⟩, by omega, by simp [Hid], rfl, rfl, rfl⟩
        case round =>
          obtain ⟨i, n, hi, hcap, hn9, hdg, rfl, rfl, rfl⟩ := hrel
          by_cases hlt : (i : Int) < s.size
          · have hi2 : i < s.data.toList.length := by show i < s.size; omega
            have hidx := idx_at s i hi2
            have htk := List.take_append_getElem hi2
            generalize s.data.toList[i] = x at *
            have hxm : x ∈ s.data.toList.take (i + 1) := by rw [← htk]; simp
            have hw1 : wrap64 ((i : Int) + 1) = i + 1 := by unfold wrap64; omega
            have hx8 := x.toNat_lt
            replace htk := hid htk
            replace hxm := hid hxm
            replace hi2 := hid hi2
            by_cases c1 : (x.toNat : Int) < 48
            · have hv : Hid (numV s = .tuple #[.int .i64 0, .int .i64 200]) := by
                show numV s = _
                unfold numV
                rw [numP_not fun h => ?_]
                have := h.2.2 x (List.mem_of_mem_take hxm.out)
                omega
              go_wp2_with fail
              go_ret2
              exact ⟨by rw [hv.out]; rfl, rfl⟩
            · by_cases c2 : 57 < (x.toNat : Int)
              · have hv : Hid (numV s = .tuple #[.int .i64 0, .int .i64 200]) := by
                  show numV s = _
                  unfold numV
                  rw [numP_not fun h => ?_]
                  have := h.2.2 x (List.mem_of_mem_take hxm.out)
                  omega
                go_wp2_with fail
                go_ret2
                exact ⟨by rw [hv.out]; rfl, rfl⟩
              · by_cases c3 : (n : Int) ≤ 1048576
                · go_wp2_with fail
                  refine ⟨⟨i + 1, 10 * n + (x.toNat - 48), by omega, ?_, by omega, ?_, by first | rfl | (congr 1; omega), by simp, trivial⟩, by simp [intOf]; omega⟩
                  · show Cap _ _
                    rw [← htk.out]
                    exact hcap.out.small (by omega) x ⟨by omega, by omega⟩
                  · show ∀ y ∈ _, _
                    intro y hy
                    rw [← htk.out, List.mem_append] at hy
                    rcases hy with hy | hy
                    · exact hdg.out y hy
                    · rw [List.mem_singleton] at hy
                      subst hy
                      omega
                · go_wp2_with fail
                  refine ⟨⟨i + 1, n, by omega, ?_, by omega, ?_, by first | rfl | (congr 1; omega), by simp, trivial⟩, by simp [intOf]; omega⟩
                  · show Cap _ _
                    rw [← htk.out]
                    exact hcap.out.big (by omega) x
                  · show ∀ y ∈ _, _
                    intro y hy
                    rw [← htk.out, List.mem_append] at hy
                    rcases hy with hy | hy
                    · exact hdg.out y hy
                    · rw [List.mem_singleton] at hy
                      subst hy
                      omega
          · have hfull : s.data.toList.take i = s.data.toList := List.take_of_length_le (by show s.size ≤ i; omega)
            rw [hfull] at hcap hdg
            have hcan := num_end' HZ.out hlead.out hdg.out
            by_cases c18 : (18 : Int) < s.size
            · have hv : Hid _ := num_long hcan (by omega)
              have q := rlong_w s hcan (by omega) wr
              replace hcan := hid hcan
              clear hfull
              by_cases hbig : 9223372036854775807 < dv 0 s.data.toList
              · rw [if_pos hbig] at q hv
                clear hbig
                go_wp2_with (go_at_call 28; refine q.mono ?_; rintro e w1 ⟨rfl, rfl⟩)
                go_ret2
                exact ⟨by rw [hv.out]; rfl, rfl⟩
              · rw [if_neg hbig] at q hv
                clear hbig
                go_wp2_with (go_at_call 28; refine q.mono ?_; rintro e w1 ⟨rfl, rfl⟩)
                go_ret2
                exact ⟨by rw [hv.out]; rfl, rfl⟩
            · have hv : Hid _ := num_short hcan (by omega) n hcap.out
              replace hcan := hid hcan
              clear hfull
              by_cases c3 : (1048576 : Int) < n
              · go_wp2_with fail
                go_ret2
                exact ⟨by rw [hv.out, if_pos (by omega)]; rfl, rfl⟩
              · go_wp2_with fail
                go_ret2
                exact ⟨by rw [hv.out, if_neg (by omega)]; rfl, rfl⟩
end Go.Proofs.YtojbfdlgjjghjaaDoor.K
