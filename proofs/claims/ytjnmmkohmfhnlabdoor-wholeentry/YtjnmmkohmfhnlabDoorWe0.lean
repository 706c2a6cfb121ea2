/-
  A number as the law writes it: its digits, as the program reads them.
-/
import Derived.Test.YtjnmmkohmfhnlabDoorRefn
import Derived.Laws.BytesString
namespace Go.Proofs.YtjnmmkohmfhnlabDoor
open Go.RowKit
set_option linter.unusedVariables false
set_option linter.unusedSimpArgs false

theorem dec_small (u : Nat) (h : u < 10) : Lib.decDigits u = [UInt8.ofNat (48 + u)] := by
  rw [Lib.decDigits, dif_pos h]

theorem dec_big (u : Nat) (h : ¬ u < 10) : Lib.decDigits u = Lib.decDigits (u / 10) ++ [UInt8.ofNat (48 + u % 10)] := by
  rw [Lib.decDigits, dif_neg h]

theorem digit_nat (d : Nat) (h : d < 10) : (UInt8.ofNat (48 + d)).toNat = 48 + d := by
  rw [UInt8.toNat_ofNat']; omega

theorem dv_dec : ∀ (u : Nat), dv 0 (Lib.decDigits u) = u := by
  intro u
  induction u using Nat.strongRecOn with
  | _ u ih =>
    by_cases c : u < 10
    · rw [dec_small u c]
      simp only [dv, List.foldl_cons, List.foldl_nil]
      rw [digit_nat u c]; omega
    · rw [dec_big u c, dv_snoc, ih (u / 10) (by omega), digit_nat _ (by omega)]
      omega

theorem num_list (v : Int) : (num v).data.toList = Lib.itoa v := by
  have := (num_eq v (num v)).1 rfl
  exact this.symm

theorem nval_num (v : Int) (h0 : -9223372036854775808 ≤ v) (h1 : v ≤ 9223372036854775807) : nval (num v) = some v := by
  rw [nval_nl, num_list]
  by_cases c : v < 0
  · obtain ⟨u, rfl⟩ : ∃ u : Nat, v = -(u : Int) := ⟨v.natAbs, by omega⟩
    have hu : 1 ≤ u := by omega
    have hp := pub_ok (Lib.decDigits u) (dig_range u) (dec_ne u) (by rw [dv_dec]; omega)
    rw [dv_dec] at hp
    rw [itoa_neg' u hu, nl_minus, hp]
    simp only
    rw [if_pos ⟨by omega, itoa_neg' u hu⟩]
  · obtain ⟨u, rfl⟩ : ∃ u : Nat, v = (u : Int) := ⟨v.toNat, by omega⟩
    have hp := pub_ok (Lib.decDigits u) (dig_range u) (dec_ne u) (by rw [dv_dec]; omega)
    rw [dv_dec] at hp
    rw [itoa_nat]
    cases hd : Lib.decDigits u with
    | nil => exact absurd hd (dec_ne u)
    | cons x r =>
      have hx := dig_range u x (by rw [hd]; simp)
      rw [hd] at hp
      rw [nl_plain x r (by omega) (by omega), hp]
      simp only
      rw [if_pos ⟨by omega, by rw [itoa_nat, hd]⟩]

theorem conv1 (w : World) (b : Int) : (convert 33 9 (.slice (some ⟨w.heap.size, 0, none⟩) 1 1)).run Tryd.prog (w.alloc (.cells #[.int .u8 b] 5)) = .ok (.string ⟨#[UInt8.ofNat b.toNat]⟩) (w.alloc (.cells #[.int .u8 b] 5)) := by
  rw [run_convert_bytes_string _ 33 9 5 _ _ _ Tryd.underlying33 Tryd.underlying5 Tryd.underlying9]
  refine run_bytesToString _ _ _ _ [b] ?_
  have hl := run_loadCells_list (P := Tryd.prog) (w := w.alloc (.cells #[.int .u8 b] 5)) ⟨w.heap.size, 0, none⟩ [.int .u8 b] (fun j v hj => by
    match j with
    | 0 => simp at hj; subst hj; simp [Addr.add, World.cell?_alloc_new]
    | j + 1 => simp at hj)
  simpa using hl

/-- one digit ahead -/
def dig (d : Nat) : ByteArray := ⟨#[UInt8.ofNat (48 + d)]⟩

theorem dig_size (d : Nat) : (dig d).size = 1 := rfl

theorem append_list (a b : ByteArray) : (a ++ b).data.toList = a.data.toList ++ b.data.toList := by
  rw [ByteArray.data_append, Array.toList_append]

theorem of_list {a : ByteArray} {v : Int} (h : a.data.toList = Lib.itoa v) : a = num v := by
  have := (num_eq v a).2 h.symm
  exact this.symm

theorem size_list (t : ByteArray) : t.data.toList.length = t.size := by rw [Array.length_toList]; rfl

theorem size_of {n m : Nat} {t : ByteArray} (hn : n ≤ 9223372036854775808) (h : Lib.decDigits n = Lib.decDigits m ++ t.data.toList) : t.size ≤ 30 := by
  have h1 := dec_len19 n hn
  rw [h, List.length_append, size_list] at h1
  omega

theorem byte_add (x : Nat) : (48 + UInt8.ofNat x : UInt8) = UInt8.ofNat (48 + x) := by
  apply UInt8.toNat_inj.1
  rw [UInt8.toNat_add, UInt8.toNat_ofNat', UInt8.toNat_ofNat']
  show (48 + x % 2 ^ 8) % 2 ^ 8 = (48 + x) % 2 ^ 8
  omega

theorem next_dig {n m : Nat} {t : ByteArray} (c : 9 < m) (h : Lib.decDigits n = Lib.decDigits m ++ t.data.toList) : Lib.decDigits n = Lib.decDigits (m / 10) ++ ((⟨#[48 + UInt8.ofNat (m % 10)]⟩ : ByteArray) ++ t).data.toList := by
  rw [h, dec_big m (by omega), append_list, byte_add]
  simp

theorem last_dig {m : Nat} {t : ByteArray} (c : m < 10) : ((⟨#[48 + UInt8.ofNat m]⟩ : ByteArray) ++ t).data.toList = Lib.decDigits m ++ t.data.toList := by
  rw [dec_small m c, append_list, byte_add]

set_option maxRecDepth 20000 in
set_option maxHeartbeats 2000000 in
theorem text_pos (n : Nat) (hn : n ≤ 9223372036854775807) (w : World) : Calls Tryd.prog 6 #[.int .i64 (n : Int)] w fun e w' => e = .returned (.string (num (n : Int))) ∧ Below w.heap.size w w' := by
  have cv := conv1
  have hneg : decide ((n : Int) < 0) = false := decide_eq_false (by omega)
  go_enter Tryd.func6, Tryd.ntmps6
  go_wp2_with fail
  go_loopw [0, 3] (fun x s wr => ∃ (m : Nat) (t : ByteArray), m ≤ n ∧ x = .int .i64 (m : Int) ∧ s = .string t ∧ Hid (Lib.decDigits n = Lib.decDigits m ++ t.data.toList) ∧ t.size ≤ 30 ∧ Below w.heap.size w wr) (fun x _ _ => (intOf x).toNat)
  case atStart => exact ⟨n, ⟨#[]⟩, by omega, rfl, rfl, by simp [Hid], by decide, Below.refl _ _⟩
  case round =>
    obtain ⟨m, t, hm, rfl, rfl, HD, ht, bb⟩ := hrel
    by_cases c : 9 < m
    · go_wp2
      refine ⟨⟨m / 10, _, by omega, by congr 1, rfl, next_dig c HD.out, ?_, bb.alloc bb.size _⟩, by simp [intOf]; omega⟩
      have := next_dig c HD.out
      exact size_of (by omega) this
    · have hE : (⟨#[48 + UInt8.ofNat m]⟩ : ByteArray) ++ t = num (n : Int) := of_list (by rw [itoa_nat, HD.out, last_dig (by omega)])
      go_wp2
      go_ret
      exact ⟨by first | rfl | rw [hE] | simp [hE], bb.alloc bb.size _⟩

set_option maxRecDepth 20000 in
set_option maxHeartbeats 2000000 in
theorem text_neg (n : Nat) (h1 : 1 ≤ n) (hn : n ≤ 9223372036854775808) (w : World) : Calls Tryd.prog 6 #[.int .i64 (-(n : Int))] w fun e w' => e = .returned (.string (num (-(n : Int)))) ∧ Below w.heap.size w w' := by
  have cv := conv1
  have hneg : decide (-(n : Int) < 0) = true := decide_eq_true (by omega)
  go_enter Tryd.func6, Tryd.ntmps6
  go_wp2_with fail
  go_loopw [0, 3] (fun x s wr => ∃ (m : Nat) (t : ByteArray), 1 ≤ m ∧ m ≤ n ∧ x = .int .i64 (-(m : Int)) ∧ s = .string t ∧ Hid (Lib.decDigits n = Lib.decDigits m ++ t.data.toList) ∧ t.size ≤ 30 ∧ Below w.heap.size w wr) (fun x _ _ => (intOf x).natAbs)
  case atStart => exact ⟨n, ⟨#[]⟩, h1, by omega, rfl, rfl, by simp [Hid], by decide, Below.refl _ _⟩
  case round =>
    obtain ⟨m, t, hm1, hm, rfl, rfl, HD, ht, bb⟩ := hrel
    by_cases c : 9 < m
    · go_wp2
      all_goals (
        have hq : ∀ b : UInt8, b = UInt8.ofNat (48 + m % 10) → Lib.decDigits n = Lib.decDigits (m / 10) ++ ((⟨#[b]⟩ : ByteArray) ++ t).data.toList := fun b hb => by
          rw [hb, ← byte_add]; exact next_dig c HD.out
        refine ⟨⟨m / 10, _, by omega, by omega, by congr 1, rfl, hq _ ?_, size_of (m := m / 10) hn (hq _ ?_), bb.alloc bb.size _⟩, by simp [intOf]; omega⟩
        all_goals first | exact byte_add _ | (congr 1; omega))
    · have hE : (⟨#[45]⟩ : ByteArray) ++ ((⟨#[48 + UInt8.ofNat m]⟩ : ByteArray) ++ t) = num (-(n : Int)) := of_list (by
        rw [append_list, last_dig (by omega), itoa_neg' n h1, HD.out]; rfl)
      go_wp2
      go_ret
      exact ⟨by first | rfl | rw [hE] | simp [hE], bb.alloc bb.size _⟩

theorem text_w (n : Int) (h0 : -9223372036854775808 ≤ n) (h1 : n ≤ 9223372036854775807) (w : World) : Calls Tryd.prog 6 #[.int .i64 n] w fun e w' => e = .returned (.string (num n)) ∧ Below w.heap.size w w' := by
  by_cases c : n < 0
  · obtain ⟨u, rfl⟩ : ∃ u : Nat, n = -(u : Int) := ⟨n.natAbs, by omega⟩
    exact text_neg u (by omega) (by omega) w
  · obtain ⟨u, rfl⟩ : ∃ u : Nat, n = (u : Int) := ⟨n.toNat, by omega⟩
    exact text_pos u (by omega) w

end Go.Proofs.YtjnmmkohmfhnlabDoor
