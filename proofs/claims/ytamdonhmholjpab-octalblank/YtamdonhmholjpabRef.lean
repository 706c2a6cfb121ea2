/-
  Contracts of the document's own writer: pannierref02.Octal, pannierref02.Format.
-/
import Derived.Test.YtamdonhmholjpabPlain2
import Derived.Test.YtamdonhmholjpabStr
namespace Go.Proofs.Ytamdonhmholjpab
open Go.RowKit

theorem conv_one (W : World) (c : Int) : (convert 22 9 (.slice (some ⟨W.heap.size, 0, none⟩) 1 1)).run Try.prog (W.alloc (.cells #[.int .u8 c] 5)) = .ok (.string (strOf [c])) (W.alloc (.cells #[.int .u8 c] 5)) := by
  refine conv_str _ _ 0 1 [c] fun i hi => ?_
  rw [Nat.zero_add, World.cell?_alloc_new]
  exact row_get [c] i hi

theorem ret_str {a b : ByteArray} (h : a = b) : Ending.returned (.string a) = .returned (.string b) := by rw [h]

set_option maxHeartbeats 1000000 in
theorem octal_any (n : Int) (w : World) (h0 : 0 ≤ n) (h1 : n ≤ 9223372036854775807) :
    Calls Try.prog 15 #[.int .i64 n] w fun e w' => e = .returned (.string (strOf (octs n (odig n.toNat)))) ∧ Below w.heap.size w w' := by
  have hc := conv_one
  have hs := strOf_size
  have ha := strOf_append
  have h21 := odig_le22 n h0 h1
  go_enter Try.func15, Try.ntmps15
  go_wp2
  go_loopw [0, 3] (fun tn ts wr => ∃ (x : Int) (t : List Int), 0 ≤ x ∧ x ≤ 9223372036854775807 ∧ tn = .int .i64 x ∧ ts = .string (strOf t) ∧ Hid (octs x (odig x.toNat) ++ t = octs n (odig n.toNat)) ∧ Below w.heap.size w wr)
    (fun i _ _ => (intOf i).toNat)
  case atStart => exact ⟨n, [], h0, h1, rfl, rfl, by simp [Hid], Below.refl _ _⟩
  case round =>
    obtain ⟨x, t, hx0, hx1, rfl, rfl, H, hb⟩ := hrel
    have ht : t.length ≤ 21 := by
      have := congrArg List.length H.out
      simp only [List.length_append, octs_length] at this
      omega
    by_cases c : 7 < x
    · have hd := odig_succ x.toNat (by omega) (by omega)
      have HD : Hid (octs (x / 8) (odig (x / 8).toNat) ++ (48 + x % 8) :: t = octs n (odig n.toNat)) := by
        show _ = _
        rw [← H.out, hd, show (x / 8).toNat = x.toNat / 8 by omega, octs]; simp
      clear hd H
      go_wp2
      go_roundw
      case rel => exact ⟨x / 8, (48 + x % 8) :: t, by omega, by omega, rfl, rfl, HD, hb.alloc hb.size _⟩
      case measure => simp [intOf]; omega
    · have HD : Hid (octs n (odig n.toNat) = (48 + x) :: t) := by
        show _ = _
        rw [← H.out, odig_small x.toNat (by omega)]
        simp [octs]; omega
      clear H
      go_wp2
      go_ret
      exact ⟨ret_str (by rw [HD.out]), hb.alloc hb.size _⟩

def strSize : Value → Nat
  | .string s => s.size
  | _ => 0

theorem ret2_str {a b : ByteArray} {c : Int} (h : a = b) : Ending.returned (.tuple #[.string a, .int .i64 c]) = .returned (.tuple #[.string b, .int .i64 c]) := by rw [h]

theorem ref_wide (n v : Int) (w : World) (h : v < 2 ∨ 24 < v) :
    Calls Try.prog 13 #[.int .i64 n, .int .i64 v] w fun e w' => e = .returned (.tuple #[.string ⟨#[]⟩, .int .i64 1]) ∧ Below w.heap.size w w' := by
  rcases h with h | h
  · go_enter Try.func13, Try.ntmps13
    go_wp2
    go_ret2
    exact ⟨rfl, Below.refl _ _⟩
  · have h' : ¬ v < 2 := by omega
    go_enter Try.func13, Try.ntmps13
    go_wp2
    go_ret2
    exact ⟨rfl, Below.refl _ _⟩

theorem ref_no (n : Int) (k : Nat) (w : World) (h1 : n ≤ 9223372036854775807) (k0 : 2 ≤ k) (k1 : k ≤ 24) (hf : fitsB n k = false) :
    Calls Try.prog 13 #[.int .i64 n, .int .i64 k] w fun e w' => e = .returned (.tuple #[.string ⟨#[]⟩, .int .i64 20]) ∧ Below w.heap.size w w' := by
  by_cases c : n < 0
  · go_enter Try.func13, Try.ntmps13
    go_wp2
    go_ret2
    exact ⟨rfl, Below.refl _ _⟩
  · have hs : (strOf (octs n (odig n.toNat))).size = odig n.toNat := by rw [strOf_size, octs_length]
    have hl : k ≤ odig n.toNat := by
      have : ¬ (0 ≤ n ∧ 2 ≤ (k : Int) ∧ (odig n.toNat : Int) < k) := by simpa [fitsB] using hf
      omega
    have h21 := odig_le22 n (by omega) h1
    clear hf
    go_enter Try.func13, Try.ntmps13
    go_wp2_with (go_at_call 15; refine (octal_any _ _ (by omega) (by omega)).mono ?_; rintro e w' ⟨rfl, hb⟩)
    go_ret2
    exact ⟨rfl, hb⟩

set_option maxHeartbeats 1000000 in
theorem ref_yes (n : Int) (k : Nat) (w : World) (h0 : 0 ≤ n) (h1 : n ≤ 9223372036854775807) (k0 : 2 ≤ k) (k1 : k ≤ 24) (hf : fitsB n k = true) :
    Calls Try.prog 13 #[.int .i64 n, .int .i64 k] w fun e w' => e = .returned (.tuple #[.string (strOf (octs n (k - 1) ++ [0])), .int .i64 0]) ∧ Below w.heap.size w w' := by
  have hs := strOf_size
  have ho := octs_length
  have hl : odig n.toNat < k := by
    have : 0 ≤ n ∧ 2 ≤ (k : Int) ∧ (odig n.toNat : Int) < k := by simpa [fitsB] using hf
    omega
  clear hf
  go_enter Try.func13, Try.ntmps13
  go_wp2_with (go_at_call 15; refine (octal_any _ _ (by omega) (by omega)).mono ?_; rintro e w' ⟨rfl, hb⟩)
  go_loop [6] (fun ts => ∃ (m : Nat), odig n.toNat ≤ m ∧ m < k ∧ ts = .string (strOf (octs n m))) (fun ts => k - strSize ts)
  case atStart => exact ⟨_, Nat.le_refl _, hl, rfl⟩
  case round =>
    obtain ⟨m, hm0, hm1, rfl⟩ := hrel
    by_cases c : m < k - 1
    · have HA : Hid (strOf [48] ++ strOf (octs n m) = strOf (octs n (m + 1))) := by
        show _ = _
        rw [strOf_append, octs_one_more n m h0 (lt_pow_of n m h0 h1 hm0)]; rfl
      go_wp2
      have e : (⟨#[48]⟩ : ByteArray) ++ strOf (octs n m) = strOf (octs n (m + 1)) := HA.out
      rw [e]
      go_round
      case rel => exact ⟨m + 1, by omega, by omega, rfl⟩
      case measure => simp only [strSize, strOf_size, octs_length]; omega
    · have e : m = k - 1 := by omega
      subst e
      go_wp2
      go_ret2
      exact ⟨ret2_str (by rw [← strOf_append]; rfl), hb⟩

end Go.Proofs.Ytamdonhmholjpab
