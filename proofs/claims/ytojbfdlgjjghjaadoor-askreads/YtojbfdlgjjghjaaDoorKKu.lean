/-
  The document's answer for a line: its parts (cut, digit, long).
-/
import Derived.Test.YtojbfdlgjjghjaaDoorKKt
namespace Go.Proofs.YtojbfdlgjjghjaaDoor.K
open Go.RowKit
open Go.Lib hiding intOf
set_option linter.unusedVariables false
set_option linter.unusedSimpArgs false

theorem hx_all : ∀ n : Fin 256, hx (UInt8.ofNat n.val) = if 48 ≤ n.val ∧ n.val ≤ 57 then (n.val : Int) - 48 else if 97 ≤ n.val ∧ n.val ≤ 102 then (n.val : Int) - 87 else -1 := by decide +kernel
theorem hx_eq (x : UInt8) : hx x = if 48 ≤ x.toNat ∧ x.toNat ≤ 57 then (x.toNat : Int) - 48 else if 97 ≤ x.toNat ∧ x.toNat ≤ 102 then (x.toNat : Int) - 87 else -1 := by
  have := hx_all ⟨x.toNat, x.toNat_lt⟩
  simp only [UInt8.ofNat_toNat] at this
  exact this

/-- the document's digit -/
theorem rdigit_w (x : UInt8) (w : World) : Calls Tryd.prog 21 #[.int .u8 (x.toNat : Int)] w fun e w' => e = .returned (.int .i64 (hx x)) ∧ w' = w := by
  have hr := x.toNat_lt
  have he := hx_eq x
  generalize hx x = h at *
  have hc : (48 ≤ (x.toNat : Int) ∧ (x.toNat : Int) ≤ 57 ∧ h = (x.toNat : Int) - 48) ∨ (48 ≤ (x.toNat : Int) ∧ ¬ (x.toNat : Int) ≤ 57 ∧ 97 ≤ (x.toNat : Int) ∧ (x.toNat : Int) ≤ 102 ∧ h = (x.toNat : Int) - 87) ∨
      (48 ≤ (x.toNat : Int) ∧ ¬ (x.toNat : Int) ≤ 57 ∧ 97 ≤ (x.toNat : Int) ∧ ¬ (x.toNat : Int) ≤ 102 ∧ h = -1) ∨ (48 ≤ (x.toNat : Int) ∧ ¬ (x.toNat : Int) ≤ 57 ∧ ¬ 97 ≤ (x.toNat : Int) ∧ h = -1) ∨ (¬ 48 ≤ (x.toNat : Int) ∧ ¬ 97 ≤ (x.toNat : Int) ∧ h = -1) := by
    split at he
    · omega
    · split at he <;> omega
  have hr2 : (0 : Int) ≤ (x.toNat : Int) ∧ (x.toNat : Int) < 256 := by omega
  clear he hr
  generalize (x.toNat : Int) = n at *
  rcases hc with ⟨h1, h2, he⟩ | ⟨h1, h2, h3, h4, he⟩ | ⟨h1, h2, h3, h4, he⟩ | ⟨h1, h2, h3, he⟩ | ⟨h1, h2, he⟩
  all_goals
    replace he := hid he
    go_enter Tryd.func21, Tryd.ntmps21
    go_wp2_with fail
    go_ret
    refine ⟨?_, rfl⟩
    rw [he.out]
    first | rfl | (show Ending.returned (.int .i64 (n - 97 + 10)) = _; rw [show n - 97 + 10 = n - 87 by omega])

theorem bl_none {s : ByteArray} (h : (32 : UInt8) ∉ s.data.toList) : cutW s = s ∧ cutR s = ⟨#[]⟩ := cut_no h
theorem bl_at {s : ByteArray} {i : Nat} (hi : i < s.data.toList.length) (hn : (32 : UInt8) ∉ s.data.toList.take i) (hx : s.data.toList[i] = 32) : cutW s = s.extract 0 i ∧ cutR s = s.extract (i + 1) s.size := by
  have e : s.data.toList = s.data.toList.take i ++ (32 : UInt8) :: s.data.toList.drop (i + 1) := by
    rw [← hx, ← List.drop_eq_getElem_cons hi, List.take_append_drop]
  have hb : bl s = i := by
    unfold bl
    rw [e, index_app 32 _ _ hn, List.length_take, Nat.min_eq_left (by omega)]
  unfold cutW cutR
  rw [hb, if_neg (by omega), if_neg (by omega)]
  exact ⟨rfl, rfl⟩

/-- the document's cut -/
theorem rcut_w (s : ByteArray) (hs : s.size ≤ 281474976710656) (w : World) : Calls Tryd.prog 19 #[.string s] w fun e w' => e = .returned (.tuple #[.string (cutW s), .string (cutR s)]) ∧ Below w.heap.size w w' := by
  have HS := hid hs
  go_enter Tryd.func19, Tryd.ntmps19
  go_wp2_with fail
  go_loopw [4] (fun t4 wr => ∃ i : Nat, i ≤ s.size ∧ Hid ((32 : UInt8) ∉ s.data.toList.take i) ∧ t4 = .int .i64 i ∧ wr = w) (fun t4 _ => s.size - (intOf t4).toNat)
  case atStart => exact ⟨0, by omega, by simp [Hid], rfl, rfl⟩
  case round =>
    obtain ⟨i, hi, hn, rfl, rfl⟩ := hrel
    by_cases hlt : (i : Int) < s.size
    · have hi2 : i < s.data.toList.length := by show i < s.size; omega
      obtain ⟨x, hx⟩ : ∃ x, s.data.toList[i] = x := ⟨_, rfl⟩
      have hidx : ∀ W, (Instr.index 9 (.string s) (.int .i64 (i : Int))).run Tryd.prog W = .ok (.int .u8 (x.toNat : Int)) W := fun W => by
        rw [run_index_string W 9 s .i64 (i : Int) Tryd.underlying9, dif_pos ⟨by omega, by omega⟩]
        have gt : ∀ j (hj : j < s.data.toList.length) (hj2 : j < s.size), s[j]'hj2 = s.data.toList[j]'hj := fun j hj hj2 => by simp [ByteArray.getElem_eq_getElem_data]
        simp only [Int.toNat_natCast]
        rw [gt i hi2, hx]
      have hw1 : wrap64 ((i : Int) + 1) = i + 1 := by unfold wrap64; omega
      replace hi2 := hid hi2
      replace hx := hid hx
      by_cases hb : (x.toNat : Int) = 32
      · have hlt2 : (i : Int) + 1 ≤ s.size := by omega
        have hc := hid (bl_at hi2.out hn.out (by rw [hx.out]; exact UInt8.toNat_inj.mp (by rw [show (32 : UInt8).toNat = 32 from rfl]; omega)))
        go_upto_region 5 with fail
        go_quiet (fail)
        have hB : Hid (Below wr.heap.size wr (wr.drewN nq)) := bel_drewN (Below.refl _ _) nq
        generalize wr.drewN nq = wq at *
        go_wp2
        go_ret2
        exact ⟨by rw [hc.out.1, hc.out.2]; rfl, hB.out⟩
      · go_wp2
        refine ⟨⟨i + 1, by omega, ?_, by simp, trivial⟩, by simp [intOf]; omega⟩
        have := hi2.out
        show (32 : UInt8) ∉ s.data.toList.take (i + 1)
        rw [← List.take_append_getElem this, List.mem_append, not_or]
        refine ⟨hn.out, ?_⟩
        rw [hx.out, List.mem_singleton]
        intro e
        exact hb (by rw [← e]; rfl)
    · have hc := hid (bl_none (s := s) (by have := hn.out; rw [List.take_of_length_le (by show s.size ≤ i; omega)] at this; exact this))
      go_wp2
      go_ret2
      exact ⟨by rw [hc.out.1, hc.out.2]; rfl, Below.refl _ _⟩
end Go.Proofs.YtojbfdlgjjghjaaDoor.K
